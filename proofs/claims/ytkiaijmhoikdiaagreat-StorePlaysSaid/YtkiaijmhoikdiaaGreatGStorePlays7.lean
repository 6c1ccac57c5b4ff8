/- Texts of this claim put together; each theorem states its conditions. -/
import Derived.Test.YtkiaijmhoikdiaaGreatGStorePlays5
import Derived.Test.YtkiaijmhoikdiaaGreatGStorePlays6
import Derived.Test.YtkiaijmhoikdiaaGreatGStorePlays2
import Derived.Test.YtkiaijmhoikdiaaGreatGStorePlays4
import Derived.Test.YtkiaijmhoikdiaaGreatRows
import Derived.Test.YtkiaijmhoikdiaaGreatGStorePlays1
import Derived.Deep.SlicePairs
import Derived.OpenShut
import Derived.ProofKit
import Derived.SizedLaws
import Derived.Test.YtkiaijmhoikdiaaGreatGStorePlays3
import Derived.Deep.DeepCutAuto
import Derived.Deep.CutBlock
/- The document's Write writes a packet. Each theorem states its conditions. -/
namespace Go.Proofs.YtkiaijmhoikdiaaGreat
open Go.RowKit
set_option linter.unusedVariables false

set_option maxHeartbeats 40000000 in
set_option maxRecDepth 100000 in
theorem refWrite_K (p : Pd) (K : Int) (hK : K = 18 ∨ K = 20) (hk : p.kd = K) (hp : PdOk p) (hf : fitP p 2 = true) (L : Nat → It) (hm : ∀ k, k < p.m → ¬ bad L k) (hn : 27 + sz L p.m ≤ 1492) (w : World) (hin : PdIn w p L) :
    Calls Tryz.prog 27 #[.agg (pdC p)] w (RwP w (27 + sz L p.m) (pdZ p 2 L)) := by
  have HZ : Hid (∀ j, 0 ≤ pdZ p 2 L j ∧ pdZ p 2 L j ≤ 255) := Lib.hid (pdZ_bd p 2 L (by decide) hp (J_rd hin.1 hm))
  have a0 := pdC_0 p
  have a46 := pdC_46 p
  rw [hk] at a0
  have HIN := Lib.hid hin
  have HM := Lib.hid hm
  have HP := Lib.hid hp
  have HWZ : Hid (cat (accZ p (27 + sz L p.m) 2 6) 27 (J L p.m) = wZ p 2 L) := Lib.hid rfl
  have HJB := Lib.hid (J_rd hin.1 hm)
  have HKD := Lib.hid hk
  obtain ⟨T, hT⟩ : ∃ T, sz L p.m = T := ⟨_, rfl⟩
  have HPZ : Hid (pdZ p 2 L = sgZ (wZ p 2 L) (27 + sz L p.m)) := Lib.hid rfl
  rw [hT] at hn HWZ HPZ ⊢
  have HT := Lib.hid hT
  clear hT
  have HN := Lib.hid hn
  have HHD : Hid (∀ w, Calls Tryz.prog 26 #[.int .u8 K] w fun e w' => e = .returned (.int .i64 27) ∧ w = w') := Lib.hid (fun w => refHead_any K 2 (by rcases hK with rfl | rfl <;> rfl) (by decide) w)
  have hTb : T ≤ 1492 := by omega
  have HLS := Lib.hid (lsp_yes K (by rcases hK with rfl | rfl <;> decide))
  have f15 : (K == 15) = false := by rcases hK with rfl | rfl <;> rfl
  have f16 : (K == 16) = false := by rcases hK with rfl | rfl <;> rfl
  have f17 : (K == 17) = false := by rcases hK with rfl | rfl <;> rfl
  have hKb : 0 ≤ K ∧ K ≤ 255 := by omega
  have HKB := Lib.hid hKb
  have HKK := Lib.hid hK
  clear hK
  have hli : 0 ≤ p.li ∧ p.li ≤ 65535 := fit_li p hf
  obtain ⟨NH, hNH⟩ : ∃ N : Nat, p.li = (N : Int) := ⟨p.li.toNat, by omega⟩
  have HNH := Lib.hid hNH
  have hNHb : NH ≤ 65535 := by omega
  clear hin hm hp hf hn hk hli hNH
  have HX0 := Lib.hid (heap_alloc_new w (.cells (pdC p) 39))
  have HB0 := Lib.hid ((bself w).alloc (Nat.le_refl _) (.cells (pdC p) 39))
  go_enter Tryz.func27, Tryz.ntmps27
  go_wp2_with fail
  obtain ⟨W0, hW0⟩ : ∃ W0, w.alloc (.cells (pdC p) 39) = W0 := ⟨_, rfl⟩
  rw [hW0] at HX0 HB0 ⊢
  clear hW0
  obtain ⟨N1, hN1⟩ : ∃ N, w.heap.size = N := ⟨_, rfl⟩
  have HX : Hid (W0.heap[N1]? = some (.cells (pdC p) 39 (0, 0))) := Lib.hid (by rw [← hN1]; exact HX0.out)
  clear HX0
  skip
  refine (refjoin_any p.A p.m p.c L _ (HIN.out.1.below HB0.out) HIN.out.2.1 HIN.out.2.2 HM.out).mono ?_
  rintro e w1 ⟨v, rfl, ho, hb⟩
  rw [HT.out] at ho
  obtain ⟨TA, Tc, lt, rfl, hTc, hTm, hTn, hkt, hrt⟩ := own_has ⟨ho, HJB.out⟩
  have HTR := Lib.hid hrt
  have HTN := Lib.hid hTn
  have HK1 : Hid (Kp w1 ((N1, .cells (pdC p) 39 (0, 0)) :: lt)) := Lib.hid (hkt.cons ((hb.block _ (Array.getElem?_eq_some_iff.1 HX.out).1).trans HX.out))
  have HB1 := Lib.hid (HB0.out.trans (hb.mono HB0.out.size))
  clear ho hTn hkt hrt hb HX HB0
  rw [hN1]
  clear hN1
  have c0 : w1.cell? ⟨N1, 0, none⟩ = some (.int .u8 K) := (cell_of_row w1 _ 0 _ _ _ HK1.out.head).trans a0
  go_wp2_with fail
  refine (HHD.out _).mono ?_
  rintro e wx ⟨rfl, rfl⟩
  go_wp2_with fail
  rw [show (27 : Int) + (T : Int) = ((27 + T : Nat) : Int) from by omega]
  refine (two_any (27 + T) _ (by have := HN.out; omega)).mono ?_
  rintro e w2 ⟨gs, rfl, hgs, hos, hb⟩
  obtain ⟨os, hks, hrs⟩ := own8_has hos
  have HRs := Lib.hid hrs
  have HK2 : Hid (Kp w2 ((gs, os) :: (N1, .cells (pdC p) 39 (0, 0)) :: lt)) := Lib.hid ((HK1.out.below hb).cons hks)
  have HB2 := Lib.hid (HB1.out.trans (hb.mono HB1.out.size))
  obtain ⟨cs, hcs⟩ : ∃ c, c = 2 := ⟨_, rfl⟩
  clear HK1 HB1 hks hrs hos hgs hb c0
  go_wp2_with fail
  refine wp_region_held_drew (S := fun w' => Kp w' ((gs, os) :: (N1, .cells (pdC p) 39 (0, 0)) :: lt) ∧ Below w.heap.size w w') (by kernel_rfl) ⟨HK2.out.below (bself w2).drew, HB2.out.drew⟩ (fun hS => ?_)
  generalize hW3 : w2.drew = W3 at hS ⊢
  clear hW3 HK2 HB2
  refine tY (i := 0) (some 19) (v := .pointer (some ⟨N1, 0, none⟩)) rfl rfl (fun w' hS => by go_simp) hS ?_
  simp only [Act.put, pA, pB, pC]
  refine tY (i := 1) (some 20) (v := .int .u8 K) rfl rfl (fun w' hS => by (have c9 : w'.cell? ⟨N1, 0, none⟩ = some (.int .u8 K) := (cell_of_row w' _ 0 _ _ _ hS.1.tail.head).trans a0; clear hS; go_simp)) hS ?_
  simp only [Act.put, pA, pB, pC]
  refine tY (i := 4) (some 23) (v := .pointer (some ⟨N1, 0, none⟩)) rfl rfl (fun w' hS => by go_simp) hS ?_
  simp only [Act.put, pA, pB, pC]
  refine tY (i := 5) (some 24) (v := .int .u8 K) rfl rfl (fun w' hS => by (have c9 : w'.cell? ⟨N1, 0, none⟩ = some (.int .u8 K) := (cell_of_row w' _ 0 _ _ _ hS.1.tail.head).trans a0; clear hS; go_simp)) hS ?_
  simp only [Act.put, pA, pB, pC]
  refine takeC (i := 2) (some 21) 26 #[.int .u8 K] (.int .i64 27) (R := fun w' => W3 = w') rfl rfl (by kernel_rfl) (by rfl) (by go_simp) (HHD.out _) (fun w' hb => hb ▸ hS) (fun wx hb1 hS2 => ?_)
  subst hb1
  clear hS2
  simp only [Act.put, pA, pB, pC]
  refine tY (i := 3) (some 22) (v := .int .u8 27) rfl rfl (fun w' hS => by (go_simp; rfl)) hS ?_
  simp only [Act.put, pA, pB, pC]
  refine takeV (i := 6) (some 25) (v := .slice (some ⟨W3.heap.size, 0, none⟩) 8 8) (w' := W3.alloc (.cells #[.int .u8 131, .int .u8 27, .int .u8 1, .int .u8 0, .int .u8 K, .int .u8 1, .int .u8 0, .int .u8 0] 5)) rfl rfl (by kernel_rfl) (by rfl) (by go_simp) ⟨hS.1.below ((bself _).alloc (Nat.le_refl _) _), hS.2.alloc hS.2.size _⟩ ?_
  simp only [Act.put, pA, pB, pC]
  have HO : Hid (Out w (W3.alloc (.cells #[.int .u8 131, .int .u8 27, .int .u8 1, .int .u8 0, .int .u8 K, .int .u8 1, .int .u8 0, .int .u8 0] 5)) (.slice (some ⟨W3.heap.size, 0, none⟩) 8 8) 8 (accZ p (27 + T) 2 0) ((gs, os) :: (N1, .cells (pdC p) 39 (0, 0)) :: lt)) := Lib.hid (out_first hS.1 hS.2 ((bself _).alloc (Nat.le_refl _) _) (head_at W3 p K 2 27 T HKD.out rfl HKB.out (by decide)) (Nat.le_refl _))
  replace hS := And.intro HO.out.kp HO.out.2.1
  generalize hW4 : W3.alloc (.cells #[.int .u8 131, .int .u8 27, .int .u8 1, .int .u8 0, .int .u8 K, .int .u8 1, .int .u8 0, .int .u8 0] 5) = W4 at HO hS ⊢
  clear hW4
  obtain ⟨v4, hv4⟩ : ∃ v, v = Value.slice (some ⟨W3.heap.size, 0, none⟩) 8 8 := ⟨_, rfl⟩
  rw [← hv4] at HO ⊢
  clear hv4
  refine tY (i := 7) (some 5) (v := v4) rfl rfl (fun w' hS => by go_simp) hS ?_
  simp only [Act.put, pA, pB, pC]
  clear hS
  refine wpAnyH_done (by kernel_rfl) ?_ _
  go_wp2_with (refine wpList_ldr (op := ⟨some 27, _, _, _, _, _⟩) (by rfl) 33 (.tmp 26) rfl N1 2 rfl (ndC p.so) _ (PdT.so (t := 39) (p := p) HO.out.kp.tail.head) Tryz.underlying33 rfl (hi_nd' _) ?_; refine Hid.out ?_)
  refine Lib.hid ?_
  go_wp2_with fail
  refine (refNode_any p.so _ HP.out.1.2.2.1).mono ?_
  rintro e W5 ⟨vy, rfl, hoy, hb⟩
  obtain ⟨gy, cy, rfl, hgy, hoy⟩ := own_ofB hoy (by omega)
  have hcy := hoy.caps
  have hcy1 : (6 : Int) ≤ (cy : Int) := by omega
  have hcy1 : 7 ≤ cy := hcy.1
  obtain ⟨oy, hky, hry⟩ := own8_has hoy
  have HRy := Lib.hid hry
  have HOn := Lib.hid (HO.out.new hb hgy hky)
  clear HO hb hgy hky hry hoy hcy
  have HO := HOn
  clear HOn
  have c0 : W5.cell? ⟨N1, 0, none⟩ = some (.int .u8 K) := (cell_of_row W5 _ 0 _ _ _ HO.out.kp.tail.tail.head).trans a0
  go_upto_block 0 with fail
  go_cut [5] (fun vo wc => Hid (Out w wc vo 27 (accZ p (27 + T) 2 6) ((gy, oy) :: (gs, os) :: (N1, .cells (pdC p) 39 (0, 0)) :: lt)))
  case first =>
    go_upto_region 13 with fail
    go_cut [77] (fun b wc => b = .bool (K == 18) ∧ W5 = wc)
    case first => go_wp2_with fail; go_meet; case rel => exact ⟨rfl, rfl⟩
    case rest =>
      obtain ⟨rfl, rfl⟩ := hcut
      go_upto_if 77 with fail
      go_cut [77] (fun b wc => b = .bool true ∧ W5 = wc)
      case first =>
        rcases HKK.out with hK | hK
        · subst hK; go_wp2_with fail; go_meet; case rel => exact ⟨rfl, rfl⟩
        · subst hK; go_wp2_with fail; go_meet; case rel => exact ⟨rfl, rfl⟩
      case rest =>
        obtain ⟨rfl, rfl⟩ := hcut
        go_wp2_with fail
        clear c0
        have HOd := Lib.hid (HO.out.below (bself W5).drew)
        clear HO
        refine wp_region_held_drew (S := fun w' => Kp w' ((gy, oy) :: (gs, os) :: (N1, .cells (pdC p) 39 (0, 0)) :: lt)) (by kernel_rfl) HOd.out.kp (fun hS => ?_)
        generalize hW1 : W5.drew = W1 at hS HOd ⊢
        clear hW1
        have HO := HOd
        clear HOd
        refine tY (i := 0) (some 80) (v := v4) rfl rfl (fun w' hS => by go_simp) hS ?_
        simp only [Act.put, pA, pB, pC]
        refine tY (i := 1) (some 81) (v := .slice (some ⟨gs, 0, none⟩) 2 2) rfl rfl (fun w' hS => by go_simp) hS ?_
        simp only [Act.put, pA, pB, pC]
        refine tY (i := 3) (some 83) (v := .pointer (some ⟨N1, 19, none⟩)) rfl rfl (fun w' hS => by go_simp) hS ?_
        simp only [Act.put, pA, pB, pC]
        refine tY (i := 4) (some 84) (v := .int .i64 (NH : Int)) rfl rfl (fun w' hS => by (have c9 : w'.cell? ⟨N1, 19, none⟩ = some (.int .i64 (NH : Int)) := (PdT.cell (t := 39) (p := p) hS.tail.tail.head 19).trans (by rw [← HNH.out]; rfl); clear hS; go_simp)) hS ?_
        simp only [Act.put, pA, pB, pC]
        refine tY (i := 7) (some 87) (v := .pointer (some ⟨N1, 20, none⟩)) rfl rfl (fun w' hS => by go_simp) hS ?_
        simp only [Act.put, pA, pB, pC]
        refine tL (i := 8) (some 88) 35 (.tmp 87) N1 20 (idC p.id) _ rfl rfl rfl rfl (fun w' hS => PdT.id (t := 39) (p := p) hS.tail.tail.head) Tryz.underlying35 rfl (hi_id _) hS ?_
        simp only [Act.put, pA, pB, pC]
        refine takeOut (i := 2) (some 82) (.tmp 80) (.tmp 81) rfl rfl (by kernel_rfl) (by rfl) rfl rfl HO.out (some ⟨gs, 0, none⟩) 2 2 (putZ (27 + T) 2) rfl ((HRs.out _ HO.out.kp.tail.head).rd) (fun e => by cases e) (by omega) ?_
        intro v3 W2 ho
        refine ⟨ho.kp, ?_⟩
        simp only [Act.put, pA, pB, pC]
        have HOn : Hid (Out w W2 v3 10 (accZ p (27 + T) 2 1) ((gy, oy) :: (gs, os) :: (N1, .cells (pdC p) 39 (0, 0)) :: lt)) := Lib.hid ho
        clear HO ho
        have HO := HOn
        clear HOn
        clear hS
        have hS := HO.out.kp
        refine takeCE (i := 5) (some 85) 57 #[.int .i64 (NH : Int)] (R := fun v w' => ∃ g c, v = .slice (some ⟨g, 0, none⟩) 2 c ∧ W2.heap.size ≤ g ∧ Own8 w' g 2 c (putZ NH 2) ∧ Below W2.heap.size W2 w') rfl rfl (by kernel_rfl) (by rfl) (by clear hS HO; go_simp) ((two_any NH W2 hNHb).mono fun e w' h => by obtain ⟨g, h1, h2, h3, h4⟩ := h; exact ⟨_, h1, g, 2, rfl, h2, h3, h4⟩) (fun v w' h => by obtain ⟨_, _, _, _, _, h4⟩ := h; exact hS.below h4) ?_
        intro vx W4 h hS2
        obtain ⟨gt, ct, rfl, hgt, hot, hb⟩ := h
        simp only [Act.put, pA, pB, pC]
        obtain ⟨ot, hkt, hrt⟩ := own8_has hot
        have HOn := Lib.hid (HO.out.new hb hgt hkt)
        have HRt := Lib.hid hrt
        clear HO hb hgt hkt hrt hot hS2
        have HO := HOn
        clear HOn
        clear hS
        have hS := HO.out.tail.kp
        refine takeOut (i := 6) (some 86) (.tmp 82) (.tmp 85) rfl rfl (by kernel_rfl) (by rfl) rfl rfl HO.out (some ⟨gt, 0, none⟩) 2 ct (fZ p 0 8) rfl ((by show Rd _ _ _ (putZ p.li.toNat 2); rw [HNH.out, Int.toNat_natCast]; exact (HRt.out _ HO.out.kp.head).rd)) (fun e => by cases e) (by omega) ?_
        intro v6 W5 ho
        refine ⟨ho.tail.kp, ?_⟩
        simp only [Act.put, pA, pB, pC]
        have HOn : Hid (Out w W5 v6 12 (accZ p (27 + T) 2 2) ((gt, ot) :: (gy, oy) :: (gs, os) :: (N1, .cells (pdC p) 39 (0, 0)) :: lt)) := Lib.hid ho
        clear HO ho
        have HO := HOn
        clear HOn
        clear hS
        have hS := HO.out.tail.kp
        refine takeCE (i := 9) (some 89) 59 #[.agg (idC p.id)] (R := fun v w' => ∃ g c, v = .slice (some ⟨g, 0, none⟩) 8 c ∧ W5.heap.size ≤ g ∧ Own8 w' g 8 c (p.id) ∧ Below W5.heap.size W5 w') rfl rfl (by kernel_rfl) (by rfl) (by clear hS HO; go_simp) ((refID_any p.id W5 HP.out.2.2.1).mono fun e w' h => by obtain ⟨v, h1, h2, h3⟩ := h; obtain ⟨g, cap, hv, hg, hog⟩ := own_ofB h2 (by omega); exact ⟨v, h1, g, cap, hv, hg, hog, h3⟩) (fun v w' h => by obtain ⟨_, _, _, _, _, h4⟩ := h; exact hS.below h4) ?_
        intro vx W7 h hS2
        obtain ⟨gu, cu, rfl, hgu, hou, hb⟩ := h
        simp only [Act.put, pA, pB, pC]
        obtain ⟨ou, hku, hru⟩ := own8_has hou
        have HOn := Lib.hid (HO.out.new hb hgu hku)
        have HRu := Lib.hid hru
        clear HO hb hgu hku hru hou hS2
        have HO := HOn
        clear HOn
        clear hS
        have hS := HO.out.tail.tail.kp
        refine takeOut (i := 10) (some 90) (.tmp 86) (.tmp 89) rfl rfl (by kernel_rfl) (by rfl) rfl rfl HO.out (some ⟨gu, 0, none⟩) 8 cu p.id rfl ((HRu.out _ HO.out.kp.head).rd) (fun e => by cases e) (by omega) ?_
        intro v9 W8 ho
        refine ⟨ho.tail.tail.kp, ?_⟩
        simp only [Act.put, pA, pB, pC]
        have HOn : Hid (Out w W8 v9 20 (accZ p (27 + T) 2 3) ((gu, ou) :: (gt, ot) :: (gy, oy) :: (gs, os) :: (N1, .cells (pdC p) 39 (0, 0)) :: lt)) := Lib.hid ho
        clear HO ho
        have HO := HOn
        clear HOn
        clear hS
        have hS := HO.out.tail.tail.kp
        refine tY (i := 11) (some 5) (v := v9) rfl rfl (fun w' hS => by go_simp) hS ?_
        simp only [Act.put, pA, pB, pC]
        clear hS
        refine wpAnyH_done (by kernel_rfl) ?_ _
        replace HO := Lib.hid (HO.out.tail.tail)
        go_wp2_with fail
        have HOd := Lib.hid (HO.out.below (bself W8).drew)
        clear HO
        refine wp_region_held_drew (S := fun w' => Kp w' ((gy, oy) :: (gs, os) :: (N1, .cells (pdC p) 39 (0, 0)) :: lt)) (by kernel_rfl) HOd.out.kp (fun hS => ?_)
        generalize hW10 : W8.drew = W10 at hS HOd ⊢
        clear hW10
        have HO := HOd
        clear HOd
        refine tY (i := 0) (some 91) (v := v9) rfl rfl (fun w' hS => by go_simp) hS ?_
        simp only [Act.put, pA, pB, pC]
        refine tY (i := 1) (some 92) (v := .pointer (some ⟨N1, 28, none⟩)) rfl rfl (fun w' hS => by go_simp) hS ?_
        simp only [Act.put, pA, pB, pC]
        refine tY (i := 2) (some 93) (v := .int .u32 (p.sq : Int)) rfl rfl (fun w' hS => by (have c9 : w'.cell? ⟨N1, 28, none⟩ = some (.int .u32 (p.sq : Int)) := (PdT.cell (t := 39) (p := p) hS.tail.tail.head 28).trans rfl; clear hS; go_simp)) hS ?_
        simp only [Act.put, pA, pB, pC]
        refine tY (i := 3) (some 94) (v := .int .u64 (p.sq : Int)) rfl rfl (fun w' hS => by (have hq := HP.out.2.2.2.1; clear hS; go_simp; simp [IntKind.wrap, IntKind.signed, IntKind.bits]; omega)) hS ?_
        simp only [Act.put, pA, pB, pC]
        refine tY (i := 8) (some 99) (v := .pointer (some ⟨N1, 29, none⟩)) rfl rfl (fun w' hS => by go_simp) hS ?_
        simp only [Act.put, pA, pB, pC]
        refine tY (i := 9) (some 100) (v := .int .u8 p.bi) rfl rfl (fun w' hS => by (have c9 : w'.cell? ⟨N1, 29, none⟩ = some (.int .u8 p.bi) := (PdT.cell (t := 39) (p := p) hS.tail.tail.head 29).trans rfl; clear hS; go_simp)) hS ?_
        simp only [Act.put, pA, pB, pC]
        refine wpAnyH_ready (show Region.ready _ _ _ = [4, 6, 10] from by kernel_rfl) (by simp) (consCE (i := 4) (some 95) 60 #[.int .u64 (p.sq : Int), .int .i64 4] (R := fun v w' => ∃ g c, v = .slice (some ⟨g, 0, none⟩) 4 c ∧ W10.heap.size ≤ g ∧ Own8 w' g 4 c (putZ p.sq 4) ∧ Below W10.heap.size W10 w') rfl rfl (by rfl) (by clear hS HO; go_simp) ((bytes_any p.sq 4 W10 (by have := HP.out.2.2.2.1; omega) (by decide) (by decide)).mono fun e w' h => by obtain ⟨g, h1, h2, h3, h4⟩ := h; exact ⟨_, h1, g, 4, rfl, h2, h3, h4⟩) (fun v w' h => by obtain ⟨_, _, _, _, _, h4⟩ := h; exact hS.below h4) ?_ (consVW (i := 6) (some 97) (v := .slice (some ⟨W10.heap.size, 0, none⟩) 2 2) (w' := W10.alloc (.cells #[.int .u8 0, .int .u8 0] 5)) rfl rfl (by rfl) (by clear hS HO; go_simp) (Out.alloc HO.out _ _).tail.kp ?_ (consVW (i := 10) (some 101) (v := .slice (some ⟨W10.heap.size, 0, none⟩) 1 1) (w' := W10.alloc (.cells #[.int .u8 p.bi] 5)) rfl rfl (by rfl) (by clear hS HO; go_simp) (Out.alloc HO.out _ _).tail.kp ?_ AllReadyH.nil)))
        · skip
          intro vx W11 h hS2
          obtain ⟨gt, ct, rfl, hgt, hot, hb⟩ := h
          simp only [Act.put, pA, pB, pC]
          obtain ⟨ot, hkt, hrt⟩ := own8_has hot
          have HOn := Lib.hid (HO.out.new hb hgt hkt)
          have HRt := Lib.hid hrt
          clear HO hb hgt hkt hrt hot hS2
          have HO := HOn
          clear HOn
          clear hS
          have hS := HO.out.tail.kp
          refine wpAnyH_ready (show Region.ready _ _ _ = [5, 6, 10] from by kernel_rfl) (by simp) (consOut (i := 5) (some 96) (.tmp 91) (.tmp 95) rfl rfl (by rfl) rfl rfl HO.out (some ⟨gt, 0, none⟩) 4 ct (putZ p.sq 4) rfl ((HRt.out _ HO.out.kp.head).rd) (fun e => by cases e) (by omega) ?_ (consVW (i := 6) (some 97) (v := .slice (some ⟨W11.heap.size, 0, none⟩) 2 2) (w' := W11.alloc (.cells #[.int .u8 0, .int .u8 0] 5)) rfl rfl (by rfl) (by clear hS HO; go_simp) (Out.alloc HO.out.tail _ _).tail.kp ?_ (consVW (i := 10) (some 101) (v := .slice (some ⟨W11.heap.size, 0, none⟩) 1 1) (w' := W11.alloc (.cells #[.int .u8 p.bi] 5)) rfl rfl (by rfl) (by clear hS HO; go_simp) (Out.alloc HO.out.tail _ _).tail.kp ?_ AllReadyH.nil)))
          · skip
            intro v13 W12 ho
            refine ⟨ho.tail.kp, ?_⟩
            simp only [Act.put, pA, pB, pC]
            have HOn : Hid (Out w W12 v13 24 (accZ p (27 + T) 2 4) ((gt, ot) :: (gy, oy) :: (gs, os) :: (N1, .cells (pdC p) 39 (0, 0)) :: lt)) := Lib.hid ho
            clear HO ho
            have HO := HOn
            clear HOn
            clear hS
            have hS := HO.out.tail.kp
            refine wpAnyH_ready (show Region.ready _ _ _ = [6, 10] from by kernel_rfl) (by simp) (consVW (i := 6) (some 97) (v := .slice (some ⟨W12.heap.size, 0, none⟩) 2 2) (w' := W12.alloc (.cells #[.int .u8 0, .int .u8 0] 5)) rfl rfl (by rfl) (by clear hS HO; go_simp) (Out.alloc HO.out.tail _ _).tail.kp ?_ (consVW (i := 10) (some 101) (v := .slice (some ⟨W12.heap.size, 0, none⟩) 1 1) (w' := W12.alloc (.cells #[.int .u8 p.bi] 5)) rfl rfl (by rfl) (by clear hS HO; go_simp) (Out.alloc HO.out.tail _ _).tail.kp ?_ AllReadyH.nil))
            · skip
              simp only [Act.put, pA, pB, pC]
              have HOn := Lib.hid (Out.alloc HO.out #[.int .u8 0, .int .u8 0] 5)
              clear HO
              obtain ⟨gz, hgz⟩ : ∃ g, W12.heap.size = g := ⟨_, rfl⟩
              rw [hgz] at HOn ⊢
              generalize hW14 : W12.alloc (.cells #[.int .u8 0, .int .u8 0] 5) = W14 at HOn ⊢
              clear hW14 hgz
              have HO := HOn
              clear HOn
              clear hS
              have hS := HO.out.tail.tail.kp
              refine wpAnyH_ready (show Region.ready _ _ _ = [7, 10] from by kernel_rfl) (by simp) (consOut (i := 7) (some 98) (.tmp 96) (.tmp 97) rfl rfl (by rfl) rfl rfl HO.out (some ⟨gz, 0, none⟩) 2 2 (fun _ => 0) rfl (rd_two0 HO.out.kp.head) (fun e => by cases e) (by omega) ?_ (consVW (i := 10) (some 101) (v := .slice (some ⟨W14.heap.size, 0, none⟩) 1 1) (w' := W14.alloc (.cells #[.int .u8 p.bi] 5)) rfl rfl (by rfl) (by clear hS HO; go_simp) (Out.alloc HO.out.tail.tail _ _).tail.kp ?_ AllReadyH.nil))
              · skip
                intro v16 W15 ho
                refine ⟨ho.tail.tail.kp, ?_⟩
                simp only [Act.put, pA, pB, pC]
                have HOn : Hid (Out w W15 v16 26 (accZ p (27 + T) 2 5) ((gz, .cells #[.int .u8 0, .int .u8 0] 5 (0, 0)) :: (gt, ot) :: (gy, oy) :: (gs, os) :: (N1, .cells (pdC p) 39 (0, 0)) :: lt)) := Lib.hid ho
                clear HO ho
                have HO := HOn
                clear HOn
                clear hS
                have hS := HO.out.tail.tail.kp
                refine takeV (i := 10) (some 101) (v := .slice (some ⟨W15.heap.size, 0, none⟩) 1 1) (w' := W15.alloc (.cells #[.int .u8 p.bi] 5)) rfl rfl (by kernel_rfl) (by rfl) (by clear hS HO; go_simp) (Out.alloc HO.out.tail.tail _ _).tail.kp ?_
                simp only [Act.put, pA, pB, pC]
                have HOn := Lib.hid (Out.alloc HO.out #[.int .u8 p.bi] 5)
                clear HO
                obtain ⟨gb, hgb⟩ : ∃ g, W15.heap.size = g := ⟨_, rfl⟩
                rw [hgb] at HOn ⊢
                generalize hW17 : W15.alloc (.cells #[.int .u8 p.bi] 5) = W17 at HOn ⊢
                clear hW17 hgb
                have HO := HOn
                clear HOn
                clear hS
                have hS := HO.out.tail.tail.tail.kp
                refine takeOut (i := 11) (some 102) (.tmp 98) (.tmp 101) rfl rfl (by kernel_rfl) (by rfl) rfl rfl HO.out (some ⟨gb, 0, none⟩) 1 1 (fun _ => p.bi) rfl (rd_one HO.out.kp.head rfl HP.out.2.2.2.2.1) (fun e => by cases e) (by omega) ?_
                intro v19 W18 ho
                refine ⟨ho.tail.tail.tail.kp, ?_⟩
                simp only [Act.put, pA, pB, pC]
                have HOn : Hid (Out w W18 v19 27 (accZ p (27 + T) 2 6) ((gb, .cells #[.int .u8 p.bi] 5 (0, 0)) :: (gz, .cells #[.int .u8 0, .int .u8 0] 5 (0, 0)) :: (gt, ot) :: (gy, oy) :: (gs, os) :: (N1, .cells (pdC p) 39 (0, 0)) :: lt)) := Lib.hid ho
                clear HO ho
                have HO := HOn
                clear HOn
                clear hS
                have hS := HO.out.tail.tail.tail.kp
                refine tY (i := 12) (some 5) (v := v19) rfl rfl (fun w' hS => by go_simp) hS ?_
                simp only [Act.put, pA, pB, pC]
                clear hS
                refine wpAnyH_done (by kernel_rfl) ?_ _
                replace HO := Lib.hid (HO.out.tail.tail.tail)
                go_wp2_with fail
                go_meet
                case rel => exact HO
              · skip
                simp only [Act.put, pA, pB, pC]
                have HOn := Lib.hid (Out.alloc HO.out #[.int .u8 p.bi] 5)
                clear HO
                obtain ⟨gb, hgb⟩ : ∃ g, W14.heap.size = g := ⟨_, rfl⟩
                rw [hgb] at HOn ⊢
                generalize hW15 : W14.alloc (.cells #[.int .u8 p.bi] 5) = W15 at HOn ⊢
                clear hW15 hgb
                have HO := HOn
                clear HOn
                clear hS
                have hS := HO.out.tail.tail.tail.kp
                refine takeOut (i := 7) (some 98) (.tmp 96) (.tmp 97) rfl rfl (by kernel_rfl) (by rfl) rfl rfl HO.out (some ⟨gz, 0, none⟩) 2 2 (fun _ => 0) rfl (rd_two0 HO.out.kp.tail.head) (fun e => by cases e) (by omega) ?_
                intro v17 W16 ho
                refine ⟨ho.tail.tail.tail.kp, ?_⟩
                simp only [Act.put, pA, pB, pC]
                have HOn : Hid (Out w W16 v17 26 (accZ p (27 + T) 2 5) ((gb, .cells #[.int .u8 p.bi] 5 (0, 0)) :: (gz, .cells #[.int .u8 0, .int .u8 0] 5 (0, 0)) :: (gt, ot) :: (gy, oy) :: (gs, os) :: (N1, .cells (pdC p) 39 (0, 0)) :: lt)) := Lib.hid ho
                clear HO ho
                have HO := HOn
                clear HOn
                clear hS
                have hS := HO.out.tail.tail.tail.kp
                refine takeOut (i := 11) (some 102) (.tmp 98) (.tmp 101) rfl rfl (by kernel_rfl) (by rfl) rfl rfl HO.out (some ⟨gb, 0, none⟩) 1 1 (fun _ => p.bi) rfl (rd_one HO.out.kp.head rfl HP.out.2.2.2.2.1) (fun e => by cases e) (by omega) ?_
                intro v19 W18 ho
                refine ⟨ho.tail.tail.tail.kp, ?_⟩
                simp only [Act.put, pA, pB, pC]
                have HOn : Hid (Out w W18 v19 27 (accZ p (27 + T) 2 6) ((gb, .cells #[.int .u8 p.bi] 5 (0, 0)) :: (gz, .cells #[.int .u8 0, .int .u8 0] 5 (0, 0)) :: (gt, ot) :: (gy, oy) :: (gs, os) :: (N1, .cells (pdC p) 39 (0, 0)) :: lt)) := Lib.hid ho
                clear HO ho
                have HO := HOn
                clear HOn
                clear hS
                have hS := HO.out.tail.tail.tail.kp
                refine tY (i := 12) (some 5) (v := v19) rfl rfl (fun w' hS => by go_simp) hS ?_
                simp only [Act.put, pA, pB, pC]
                clear hS
                refine wpAnyH_done (by kernel_rfl) ?_ _
                replace HO := Lib.hid (HO.out.tail.tail.tail)
                go_wp2_with fail
                go_meet
                case rel => exact HO
            · skip
              simp only [Act.put, pA, pB, pC]
              have HOn := Lib.hid (Out.alloc HO.out #[.int .u8 p.bi] 5)
              clear HO
              obtain ⟨gb, hgb⟩ : ∃ g, W12.heap.size = g := ⟨_, rfl⟩
              rw [hgb] at HOn ⊢
              generalize hW14 : W12.alloc (.cells #[.int .u8 p.bi] 5) = W14 at HOn ⊢
              clear hW14 hgb
              have HO := HOn
              clear HOn
              clear hS
              have hS := HO.out.tail.tail.kp
              refine takeV (i := 6) (some 97) (v := .slice (some ⟨W14.heap.size, 0, none⟩) 2 2) (w' := W14.alloc (.cells #[.int .u8 0, .int .u8 0] 5)) rfl rfl (by kernel_rfl) (by rfl) (by clear hS HO; go_simp) (Out.alloc HO.out.tail.tail _ _).tail.kp ?_
              simp only [Act.put, pA, pB, pC]
              have HOn := Lib.hid (Out.alloc HO.out #[.int .u8 0, .int .u8 0] 5)
              clear HO
              obtain ⟨gz, hgz⟩ : ∃ g, W14.heap.size = g := ⟨_, rfl⟩
              rw [hgz] at HOn ⊢
              generalize hW15 : W14.alloc (.cells #[.int .u8 0, .int .u8 0] 5) = W15 at HOn ⊢
              clear hW15 hgz
              have HO := HOn
              clear HOn
              clear hS
              have hS := HO.out.tail.tail.tail.kp
              refine takeOut (i := 7) (some 98) (.tmp 96) (.tmp 97) rfl rfl (by kernel_rfl) (by rfl) rfl rfl HO.out (some ⟨gz, 0, none⟩) 2 2 (fun _ => 0) rfl (rd_two0 HO.out.kp.head) (fun e => by cases e) (by omega) ?_
              intro v17 W16 ho
              refine ⟨ho.tail.tail.tail.kp, ?_⟩
              simp only [Act.put, pA, pB, pC]
              have HOn : Hid (Out w W16 v17 26 (accZ p (27 + T) 2 5) ((gz, .cells #[.int .u8 0, .int .u8 0] 5 (0, 0)) :: (gb, .cells #[.int .u8 p.bi] 5 (0, 0)) :: (gt, ot) :: (gy, oy) :: (gs, os) :: (N1, .cells (pdC p) 39 (0, 0)) :: lt)) := Lib.hid ho
              clear HO ho
              have HO := HOn
              clear HOn
              clear hS
              have hS := HO.out.tail.tail.tail.kp
              refine takeOut (i := 11) (some 102) (.tmp 98) (.tmp 101) rfl rfl (by kernel_rfl) (by rfl) rfl rfl HO.out (some ⟨gb, 0, none⟩) 1 1 (fun _ => p.bi) rfl (rd_one HO.out.kp.tail.head rfl HP.out.2.2.2.2.1) (fun e => by cases e) (by omega) ?_
              intro v19 W18 ho
              refine ⟨ho.tail.tail.tail.kp, ?_⟩
              simp only [Act.put, pA, pB, pC]
              have HOn : Hid (Out w W18 v19 27 (accZ p (27 + T) 2 6) ((gz, .cells #[.int .u8 0, .int .u8 0] 5 (0, 0)) :: (gb, .cells #[.int .u8 p.bi] 5 (0, 0)) :: (gt, ot) :: (gy, oy) :: (gs, os) :: (N1, .cells (pdC p) 39 (0, 0)) :: lt)) := Lib.hid ho
              clear HO ho
              have HO := HOn
              clear HOn
              clear hS
              have hS := HO.out.tail.tail.tail.kp
              refine tY (i := 12) (some 5) (v := v19) rfl rfl (fun w' hS => by go_simp) hS ?_
              simp only [Act.put, pA, pB, pC]
              clear hS
              refine wpAnyH_done (by kernel_rfl) ?_ _
              replace HO := Lib.hid (HO.out.tail.tail.tail)
              go_wp2_with fail
              go_meet
              case rel => exact HO
          · skip
            simp only [Act.put, pA, pB, pC]
            have HOn := Lib.hid (Out.alloc HO.out #[.int .u8 0, .int .u8 0] 5)
            clear HO
            obtain ⟨gz, hgz⟩ : ∃ g, W11.heap.size = g := ⟨_, rfl⟩
            rw [hgz] at HOn ⊢
            generalize hW12 : W11.alloc (.cells #[.int .u8 0, .int .u8 0] 5) = W12 at HOn ⊢
            clear hW12 hgz
            have HO := HOn
            clear HOn
            clear hS
            have hS := HO.out.tail.tail.kp
            refine wpAnyH_ready (show Region.ready _ _ _ = [5, 10] from by kernel_rfl) (by simp) (consOut (i := 5) (some 96) (.tmp 91) (.tmp 95) rfl rfl (by rfl) rfl rfl HO.out (some ⟨gt, 0, none⟩) 4 ct (putZ p.sq 4) rfl ((HRt.out _ HO.out.kp.tail.head).rd) (fun e => by cases e) (by omega) ?_ (consVW (i := 10) (some 101) (v := .slice (some ⟨W12.heap.size, 0, none⟩) 1 1) (w' := W12.alloc (.cells #[.int .u8 p.bi] 5)) rfl rfl (by rfl) (by clear hS HO; go_simp) (Out.alloc HO.out.tail.tail _ _).tail.kp ?_ AllReadyH.nil))
            · skip
              intro v14 W13 ho
              refine ⟨ho.tail.tail.kp, ?_⟩
              simp only [Act.put, pA, pB, pC]
              have HOn : Hid (Out w W13 v14 24 (accZ p (27 + T) 2 4) ((gz, .cells #[.int .u8 0, .int .u8 0] 5 (0, 0)) :: (gt, ot) :: (gy, oy) :: (gs, os) :: (N1, .cells (pdC p) 39 (0, 0)) :: lt)) := Lib.hid ho
              clear HO ho
              have HO := HOn
              clear HOn
              clear hS
              have hS := HO.out.tail.tail.kp
              refine wpAnyH_ready (show Region.ready _ _ _ = [7, 10] from by kernel_rfl) (by simp) (consOut (i := 7) (some 98) (.tmp 96) (.tmp 97) rfl rfl (by rfl) rfl rfl HO.out (some ⟨gz, 0, none⟩) 2 2 (fun _ => 0) rfl (rd_two0 HO.out.kp.head) (fun e => by cases e) (by omega) ?_ (consVW (i := 10) (some 101) (v := .slice (some ⟨W13.heap.size, 0, none⟩) 1 1) (w' := W13.alloc (.cells #[.int .u8 p.bi] 5)) rfl rfl (by rfl) (by clear hS HO; go_simp) (Out.alloc HO.out.tail.tail _ _).tail.kp ?_ AllReadyH.nil))
              · skip
                intro v16 W15 ho
                refine ⟨ho.tail.tail.kp, ?_⟩
                simp only [Act.put, pA, pB, pC]
                have HOn : Hid (Out w W15 v16 26 (accZ p (27 + T) 2 5) ((gz, .cells #[.int .u8 0, .int .u8 0] 5 (0, 0)) :: (gt, ot) :: (gy, oy) :: (gs, os) :: (N1, .cells (pdC p) 39 (0, 0)) :: lt)) := Lib.hid ho
                clear HO ho
                have HO := HOn
                clear HOn
                clear hS
                have hS := HO.out.tail.tail.kp
                refine takeV (i := 10) (some 101) (v := .slice (some ⟨W15.heap.size, 0, none⟩) 1 1) (w' := W15.alloc (.cells #[.int .u8 p.bi] 5)) rfl rfl (by kernel_rfl) (by rfl) (by clear hS HO; go_simp) (Out.alloc HO.out.tail.tail _ _).tail.kp ?_
                simp only [Act.put, pA, pB, pC]
                have HOn := Lib.hid (Out.alloc HO.out #[.int .u8 p.bi] 5)
                clear HO
                obtain ⟨gb, hgb⟩ : ∃ g, W15.heap.size = g := ⟨_, rfl⟩
                rw [hgb] at HOn ⊢
                generalize hW17 : W15.alloc (.cells #[.int .u8 p.bi] 5) = W17 at HOn ⊢
                clear hW17 hgb
                have HO := HOn
                clear HOn
                clear hS
                have hS := HO.out.tail.tail.tail.kp
                refine takeOut (i := 11) (some 102) (.tmp 98) (.tmp 101) rfl rfl (by kernel_rfl) (by rfl) rfl rfl HO.out (some ⟨gb, 0, none⟩) 1 1 (fun _ => p.bi) rfl (rd_one HO.out.kp.head rfl HP.out.2.2.2.2.1) (fun e => by cases e) (by omega) ?_
                intro v19 W18 ho
                refine ⟨ho.tail.tail.tail.kp, ?_⟩
                simp only [Act.put, pA, pB, pC]
                have HOn : Hid (Out w W18 v19 27 (accZ p (27 + T) 2 6) ((gb, .cells #[.int .u8 p.bi] 5 (0, 0)) :: (gz, .cells #[.int .u8 0, .int .u8 0] 5 (0, 0)) :: (gt, ot) :: (gy, oy) :: (gs, os) :: (N1, .cells (pdC p) 39 (0, 0)) :: lt)) := Lib.hid ho
                clear HO ho
                have HO := HOn
                clear HOn
                clear hS
                have hS := HO.out.tail.tail.tail.kp
                refine tY (i := 12) (some 5) (v := v19) rfl rfl (fun w' hS => by go_simp) hS ?_
                simp only [Act.put, pA, pB, pC]
                clear hS
                refine wpAnyH_done (by kernel_rfl) ?_ _
                replace HO := Lib.hid (HO.out.tail.tail.tail)
                go_wp2_with fail
                go_meet
                case rel => exact HO
              · skip
                simp only [Act.put, pA, pB, pC]
                have HOn := Lib.hid (Out.alloc HO.out #[.int .u8 p.bi] 5)
                clear HO
                obtain ⟨gb, hgb⟩ : ∃ g, W13.heap.size = g := ⟨_, rfl⟩
                rw [hgb] at HOn ⊢
                generalize hW15 : W13.alloc (.cells #[.int .u8 p.bi] 5) = W15 at HOn ⊢
                clear hW15 hgb
                have HO := HOn
                clear HOn
                clear hS
                have hS := HO.out.tail.tail.tail.kp
                refine takeOut (i := 7) (some 98) (.tmp 96) (.tmp 97) rfl rfl (by kernel_rfl) (by rfl) rfl rfl HO.out (some ⟨gz, 0, none⟩) 2 2 (fun _ => 0) rfl (rd_two0 HO.out.kp.tail.head) (fun e => by cases e) (by omega) ?_
                intro v17 W16 ho
                refine ⟨ho.tail.tail.tail.kp, ?_⟩
                simp only [Act.put, pA, pB, pC]
                have HOn : Hid (Out w W16 v17 26 (accZ p (27 + T) 2 5) ((gb, .cells #[.int .u8 p.bi] 5 (0, 0)) :: (gz, .cells #[.int .u8 0, .int .u8 0] 5 (0, 0)) :: (gt, ot) :: (gy, oy) :: (gs, os) :: (N1, .cells (pdC p) 39 (0, 0)) :: lt)) := Lib.hid ho
                clear HO ho
                have HO := HOn
                clear HOn
                clear hS
                have hS := HO.out.tail.tail.tail.kp
                refine takeOut (i := 11) (some 102) (.tmp 98) (.tmp 101) rfl rfl (by kernel_rfl) (by rfl) rfl rfl HO.out (some ⟨gb, 0, none⟩) 1 1 (fun _ => p.bi) rfl (rd_one HO.out.kp.head rfl HP.out.2.2.2.2.1) (fun e => by cases e) (by omega) ?_
                intro v19 W18 ho
                refine ⟨ho.tail.tail.tail.kp, ?_⟩
                simp only [Act.put, pA, pB, pC]
                have HOn : Hid (Out w W18 v19 27 (accZ p (27 + T) 2 6) ((gb, .cells #[.int .u8 p.bi] 5 (0, 0)) :: (gz, .cells #[.int .u8 0, .int .u8 0] 5 (0, 0)) :: (gt, ot) :: (gy, oy) :: (gs, os) :: (N1, .cells (pdC p) 39 (0, 0)) :: lt)) := Lib.hid ho
                clear HO ho
                have HO := HOn
                clear HOn
                clear hS
                have hS := HO.out.tail.tail.tail.kp
                refine tY (i := 12) (some 5) (v := v19) rfl rfl (fun w' hS => by go_simp) hS ?_
                simp only [Act.put, pA, pB, pC]
                clear hS
                refine wpAnyH_done (by kernel_rfl) ?_ _
                replace HO := Lib.hid (HO.out.tail.tail.tail)
                go_wp2_with fail
                go_meet
                case rel => exact HO
            · skip
              simp only [Act.put, pA, pB, pC]
              have HOn := Lib.hid (Out.alloc HO.out #[.int .u8 p.bi] 5)
              clear HO
              obtain ⟨gb, hgb⟩ : ∃ g, W12.heap.size = g := ⟨_, rfl⟩
              rw [hgb] at HOn ⊢
              generalize hW13 : W12.alloc (.cells #[.int .u8 p.bi] 5) = W13 at HOn ⊢
              clear hW13 hgb
              have HO := HOn
              clear HOn
              clear hS
              have hS := HO.out.tail.tail.tail.kp
              refine takeOut (i := 5) (some 96) (.tmp 91) (.tmp 95) rfl rfl (by kernel_rfl) (by rfl) rfl rfl HO.out (some ⟨gt, 0, none⟩) 4 ct (putZ p.sq 4) rfl ((HRt.out _ HO.out.kp.tail.tail.head).rd) (fun e => by cases e) (by omega) ?_
              intro v15 W14 ho
              refine ⟨ho.tail.tail.tail.kp, ?_⟩
              simp only [Act.put, pA, pB, pC]
              have HOn : Hid (Out w W14 v15 24 (accZ p (27 + T) 2 4) ((gb, .cells #[.int .u8 p.bi] 5 (0, 0)) :: (gz, .cells #[.int .u8 0, .int .u8 0] 5 (0, 0)) :: (gt, ot) :: (gy, oy) :: (gs, os) :: (N1, .cells (pdC p) 39 (0, 0)) :: lt)) := Lib.hid ho
              clear HO ho
              have HO := HOn
              clear HOn
              clear hS
              have hS := HO.out.tail.tail.tail.kp
              refine takeOut (i := 7) (some 98) (.tmp 96) (.tmp 97) rfl rfl (by kernel_rfl) (by rfl) rfl rfl HO.out (some ⟨gz, 0, none⟩) 2 2 (fun _ => 0) rfl (rd_two0 HO.out.kp.tail.head) (fun e => by cases e) (by omega) ?_
              intro v17 W16 ho
              refine ⟨ho.tail.tail.tail.kp, ?_⟩
              simp only [Act.put, pA, pB, pC]
              have HOn : Hid (Out w W16 v17 26 (accZ p (27 + T) 2 5) ((gb, .cells #[.int .u8 p.bi] 5 (0, 0)) :: (gz, .cells #[.int .u8 0, .int .u8 0] 5 (0, 0)) :: (gt, ot) :: (gy, oy) :: (gs, os) :: (N1, .cells (pdC p) 39 (0, 0)) :: lt)) := Lib.hid ho
              clear HO ho
              have HO := HOn
              clear HOn
              clear hS
              have hS := HO.out.tail.tail.tail.kp
              refine takeOut (i := 11) (some 102) (.tmp 98) (.tmp 101) rfl rfl (by kernel_rfl) (by rfl) rfl rfl HO.out (some ⟨gb, 0, none⟩) 1 1 (fun _ => p.bi) rfl (rd_one HO.out.kp.head rfl HP.out.2.2.2.2.1) (fun e => by cases e) (by omega) ?_
              intro v19 W18 ho
              refine ⟨ho.tail.tail.tail.kp, ?_⟩
              simp only [Act.put, pA, pB, pC]
              have HOn : Hid (Out w W18 v19 27 (accZ p (27 + T) 2 6) ((gb, .cells #[.int .u8 p.bi] 5 (0, 0)) :: (gz, .cells #[.int .u8 0, .int .u8 0] 5 (0, 0)) :: (gt, ot) :: (gy, oy) :: (gs, os) :: (N1, .cells (pdC p) 39 (0, 0)) :: lt)) := Lib.hid ho
              clear HO ho
              have HO := HOn
              clear HOn
              clear hS
              have hS := HO.out.tail.tail.tail.kp
              refine tY (i := 12) (some 5) (v := v19) rfl rfl (fun w' hS => by go_simp) hS ?_
              simp only [Act.put, pA, pB, pC]
              clear hS
              refine wpAnyH_done (by kernel_rfl) ?_ _
              replace HO := Lib.hid (HO.out.tail.tail.tail)
              go_wp2_with fail
              go_meet
              case rel => exact HO
          · skip
            simp only [Act.put, pA, pB, pC]
            have HOn := Lib.hid (Out.alloc HO.out #[.int .u8 p.bi] 5)
            clear HO
            obtain ⟨gb, hgb⟩ : ∃ g, W11.heap.size = g := ⟨_, rfl⟩
            rw [hgb] at HOn ⊢
            generalize hW12 : W11.alloc (.cells #[.int .u8 p.bi] 5) = W12 at HOn ⊢
            clear hW12 hgb
            have HO := HOn
            clear HOn
            clear hS
            have hS := HO.out.tail.tail.kp
            refine wpAnyH_ready (show Region.ready _ _ _ = [5, 6] from by kernel_rfl) (by simp) (consOut (i := 5) (some 96) (.tmp 91) (.tmp 95) rfl rfl (by rfl) rfl rfl HO.out (some ⟨gt, 0, none⟩) 4 ct (putZ p.sq 4) rfl ((HRt.out _ HO.out.kp.tail.head).rd) (fun e => by cases e) (by omega) ?_ (consVW (i := 6) (some 97) (v := .slice (some ⟨W12.heap.size, 0, none⟩) 2 2) (w' := W12.alloc (.cells #[.int .u8 0, .int .u8 0] 5)) rfl rfl (by rfl) (by clear hS HO; go_simp) (Out.alloc HO.out.tail.tail _ _).tail.kp ?_ AllReadyH.nil))
            · skip
              intro v14 W13 ho
              refine ⟨ho.tail.tail.kp, ?_⟩
              simp only [Act.put, pA, pB, pC]
              have HOn : Hid (Out w W13 v14 24 (accZ p (27 + T) 2 4) ((gb, .cells #[.int .u8 p.bi] 5 (0, 0)) :: (gt, ot) :: (gy, oy) :: (gs, os) :: (N1, .cells (pdC p) 39 (0, 0)) :: lt)) := Lib.hid ho
              clear HO ho
              have HO := HOn
              clear HOn
              clear hS
              have hS := HO.out.tail.tail.kp
              refine takeV (i := 6) (some 97) (v := .slice (some ⟨W13.heap.size, 0, none⟩) 2 2) (w' := W13.alloc (.cells #[.int .u8 0, .int .u8 0] 5)) rfl rfl (by kernel_rfl) (by rfl) (by clear hS HO; go_simp) (Out.alloc HO.out.tail.tail _ _).tail.kp ?_
              simp only [Act.put, pA, pB, pC]
              have HOn := Lib.hid (Out.alloc HO.out #[.int .u8 0, .int .u8 0] 5)
              clear HO
              obtain ⟨gz, hgz⟩ : ∃ g, W13.heap.size = g := ⟨_, rfl⟩
              rw [hgz] at HOn ⊢
              generalize hW15 : W13.alloc (.cells #[.int .u8 0, .int .u8 0] 5) = W15 at HOn ⊢
              clear hW15 hgz
              have HO := HOn
              clear HOn
              clear hS
              have hS := HO.out.tail.tail.tail.kp
              refine takeOut (i := 7) (some 98) (.tmp 96) (.tmp 97) rfl rfl (by kernel_rfl) (by rfl) rfl rfl HO.out (some ⟨gz, 0, none⟩) 2 2 (fun _ => 0) rfl (rd_two0 HO.out.kp.head) (fun e => by cases e) (by omega) ?_
              intro v17 W16 ho
              refine ⟨ho.tail.tail.tail.kp, ?_⟩
              simp only [Act.put, pA, pB, pC]
              have HOn : Hid (Out w W16 v17 26 (accZ p (27 + T) 2 5) ((gz, .cells #[.int .u8 0, .int .u8 0] 5 (0, 0)) :: (gb, .cells #[.int .u8 p.bi] 5 (0, 0)) :: (gt, ot) :: (gy, oy) :: (gs, os) :: (N1, .cells (pdC p) 39 (0, 0)) :: lt)) := Lib.hid ho
              clear HO ho
              have HO := HOn
              clear HOn
              clear hS
              have hS := HO.out.tail.tail.tail.kp
              refine takeOut (i := 11) (some 102) (.tmp 98) (.tmp 101) rfl rfl (by kernel_rfl) (by rfl) rfl rfl HO.out (some ⟨gb, 0, none⟩) 1 1 (fun _ => p.bi) rfl (rd_one HO.out.kp.tail.head rfl HP.out.2.2.2.2.1) (fun e => by cases e) (by omega) ?_
              intro v19 W18 ho
              refine ⟨ho.tail.tail.tail.kp, ?_⟩
              simp only [Act.put, pA, pB, pC]
              have HOn : Hid (Out w W18 v19 27 (accZ p (27 + T) 2 6) ((gz, .cells #[.int .u8 0, .int .u8 0] 5 (0, 0)) :: (gb, .cells #[.int .u8 p.bi] 5 (0, 0)) :: (gt, ot) :: (gy, oy) :: (gs, os) :: (N1, .cells (pdC p) 39 (0, 0)) :: lt)) := Lib.hid ho
              clear HO ho
              have HO := HOn
              clear HOn
              clear hS
              have hS := HO.out.tail.tail.tail.kp
              refine tY (i := 12) (some 5) (v := v19) rfl rfl (fun w' hS => by go_simp) hS ?_
              simp only [Act.put, pA, pB, pC]
              clear hS
              refine wpAnyH_done (by kernel_rfl) ?_ _
              replace HO := Lib.hid (HO.out.tail.tail.tail)
              go_wp2_with fail
              go_meet
              case rel => exact HO
            · skip
              simp only [Act.put, pA, pB, pC]
              have HOn := Lib.hid (Out.alloc HO.out #[.int .u8 0, .int .u8 0] 5)
              clear HO
              obtain ⟨gz, hgz⟩ : ∃ g, W12.heap.size = g := ⟨_, rfl⟩
              rw [hgz] at HOn ⊢
              generalize hW13 : W12.alloc (.cells #[.int .u8 0, .int .u8 0] 5) = W13 at HOn ⊢
              clear hW13 hgz
              have HO := HOn
              clear HOn
              clear hS
              have hS := HO.out.tail.tail.tail.kp
              refine takeOut (i := 5) (some 96) (.tmp 91) (.tmp 95) rfl rfl (by kernel_rfl) (by rfl) rfl rfl HO.out (some ⟨gt, 0, none⟩) 4 ct (putZ p.sq 4) rfl ((HRt.out _ HO.out.kp.tail.tail.head).rd) (fun e => by cases e) (by omega) ?_
              intro v15 W14 ho
              refine ⟨ho.tail.tail.tail.kp, ?_⟩
              simp only [Act.put, pA, pB, pC]
              have HOn : Hid (Out w W14 v15 24 (accZ p (27 + T) 2 4) ((gz, .cells #[.int .u8 0, .int .u8 0] 5 (0, 0)) :: (gb, .cells #[.int .u8 p.bi] 5 (0, 0)) :: (gt, ot) :: (gy, oy) :: (gs, os) :: (N1, .cells (pdC p) 39 (0, 0)) :: lt)) := Lib.hid ho
              clear HO ho
              have HO := HOn
              clear HOn
              clear hS
              have hS := HO.out.tail.tail.tail.kp
              refine takeOut (i := 7) (some 98) (.tmp 96) (.tmp 97) rfl rfl (by kernel_rfl) (by rfl) rfl rfl HO.out (some ⟨gz, 0, none⟩) 2 2 (fun _ => 0) rfl (rd_two0 HO.out.kp.head) (fun e => by cases e) (by omega) ?_
              intro v17 W16 ho
              refine ⟨ho.tail.tail.tail.kp, ?_⟩
              simp only [Act.put, pA, pB, pC]
              have HOn : Hid (Out w W16 v17 26 (accZ p (27 + T) 2 5) ((gz, .cells #[.int .u8 0, .int .u8 0] 5 (0, 0)) :: (gb, .cells #[.int .u8 p.bi] 5 (0, 0)) :: (gt, ot) :: (gy, oy) :: (gs, os) :: (N1, .cells (pdC p) 39 (0, 0)) :: lt)) := Lib.hid ho
              clear HO ho
              have HO := HOn
              clear HOn
              clear hS
              have hS := HO.out.tail.tail.tail.kp
              refine takeOut (i := 11) (some 102) (.tmp 98) (.tmp 101) rfl rfl (by kernel_rfl) (by rfl) rfl rfl HO.out (some ⟨gb, 0, none⟩) 1 1 (fun _ => p.bi) rfl (rd_one HO.out.kp.tail.head rfl HP.out.2.2.2.2.1) (fun e => by cases e) (by omega) ?_
              intro v19 W18 ho
              refine ⟨ho.tail.tail.tail.kp, ?_⟩
              simp only [Act.put, pA, pB, pC]
              have HOn : Hid (Out w W18 v19 27 (accZ p (27 + T) 2 6) ((gz, .cells #[.int .u8 0, .int .u8 0] 5 (0, 0)) :: (gb, .cells #[.int .u8 p.bi] 5 (0, 0)) :: (gt, ot) :: (gy, oy) :: (gs, os) :: (N1, .cells (pdC p) 39 (0, 0)) :: lt)) := Lib.hid ho
              clear HO ho
              have HO := HOn
              clear HOn
              clear hS
              have hS := HO.out.tail.tail.tail.kp
              refine tY (i := 12) (some 5) (v := v19) rfl rfl (fun w' hS => by go_simp) hS ?_
              simp only [Act.put, pA, pB, pC]
              clear hS
              refine wpAnyH_done (by kernel_rfl) ?_ _
              replace HO := Lib.hid (HO.out.tail.tail.tail)
              go_wp2_with fail
              go_meet
              case rel => exact HO
        · skip
          simp only [Act.put, pA, pB, pC]
          have HOn := Lib.hid (Out.alloc HO.out #[.int .u8 0, .int .u8 0] 5)
          clear HO
          obtain ⟨gz, hgz⟩ : ∃ g, W10.heap.size = g := ⟨_, rfl⟩
          rw [hgz] at HOn ⊢
          generalize hW11 : W10.alloc (.cells #[.int .u8 0, .int .u8 0] 5) = W11 at HOn ⊢
          clear hW11 hgz
          have HO := HOn
          clear HOn
          clear hS
          have hS := HO.out.tail.kp
          refine wpAnyH_ready (show Region.ready _ _ _ = [4, 10] from by kernel_rfl) (by simp) (consCE (i := 4) (some 95) 60 #[.int .u64 (p.sq : Int), .int .i64 4] (R := fun v w' => ∃ g c, v = .slice (some ⟨g, 0, none⟩) 4 c ∧ W11.heap.size ≤ g ∧ Own8 w' g 4 c (putZ p.sq 4) ∧ Below W11.heap.size W11 w') rfl rfl (by rfl) (by clear hS HO; go_simp) ((bytes_any p.sq 4 W11 (by have := HP.out.2.2.2.1; omega) (by decide) (by decide)).mono fun e w' h => by obtain ⟨g, h1, h2, h3, h4⟩ := h; exact ⟨_, h1, g, 4, rfl, h2, h3, h4⟩) (fun v w' h => by obtain ⟨_, _, _, _, _, h4⟩ := h; exact hS.below h4) ?_ (consVW (i := 10) (some 101) (v := .slice (some ⟨W11.heap.size, 0, none⟩) 1 1) (w' := W11.alloc (.cells #[.int .u8 p.bi] 5)) rfl rfl (by rfl) (by clear hS HO; go_simp) (Out.alloc HO.out.tail _ _).tail.kp ?_ AllReadyH.nil))
          · skip
            intro vx W12 h hS2
            obtain ⟨gt, ct, rfl, hgt, hot, hb⟩ := h
            simp only [Act.put, pA, pB, pC]
            obtain ⟨ot, hkt, hrt⟩ := own8_has hot
            have HOn := Lib.hid (HO.out.new hb hgt hkt)
            have HRt := Lib.hid hrt
            clear HO hb hgt hkt hrt hot hS2
            have HO := HOn
            clear HOn
            clear hS
            have hS := HO.out.tail.tail.kp
            refine wpAnyH_ready (show Region.ready _ _ _ = [5, 10] from by kernel_rfl) (by simp) (consOut (i := 5) (some 96) (.tmp 91) (.tmp 95) rfl rfl (by rfl) rfl rfl HO.out (some ⟨gt, 0, none⟩) 4 ct (putZ p.sq 4) rfl ((HRt.out _ HO.out.kp.head).rd) (fun e => by cases e) (by omega) ?_ (consVW (i := 10) (some 101) (v := .slice (some ⟨W12.heap.size, 0, none⟩) 1 1) (w' := W12.alloc (.cells #[.int .u8 p.bi] 5)) rfl rfl (by rfl) (by clear hS HO; go_simp) (Out.alloc HO.out.tail.tail _ _).tail.kp ?_ AllReadyH.nil))
            · skip
              intro v14 W13 ho
              refine ⟨ho.tail.tail.kp, ?_⟩
              simp only [Act.put, pA, pB, pC]
              have HOn : Hid (Out w W13 v14 24 (accZ p (27 + T) 2 4) ((gt, ot) :: (gz, .cells #[.int .u8 0, .int .u8 0] 5 (0, 0)) :: (gy, oy) :: (gs, os) :: (N1, .cells (pdC p) 39 (0, 0)) :: lt)) := Lib.hid ho
              clear HO ho
              have HO := HOn
              clear HOn
              clear hS
              have hS := HO.out.tail.tail.kp
              refine wpAnyH_ready (show Region.ready _ _ _ = [7, 10] from by kernel_rfl) (by simp) (consOut (i := 7) (some 98) (.tmp 96) (.tmp 97) rfl rfl (by rfl) rfl rfl HO.out (some ⟨gz, 0, none⟩) 2 2 (fun _ => 0) rfl (rd_two0 HO.out.kp.tail.head) (fun e => by cases e) (by omega) ?_ (consVW (i := 10) (some 101) (v := .slice (some ⟨W13.heap.size, 0, none⟩) 1 1) (w' := W13.alloc (.cells #[.int .u8 p.bi] 5)) rfl rfl (by rfl) (by clear hS HO; go_simp) (Out.alloc HO.out.tail.tail _ _).tail.kp ?_ AllReadyH.nil))
              · skip
                intro v16 W15 ho
                refine ⟨ho.tail.tail.kp, ?_⟩
                simp only [Act.put, pA, pB, pC]
                have HOn : Hid (Out w W15 v16 26 (accZ p (27 + T) 2 5) ((gt, ot) :: (gz, .cells #[.int .u8 0, .int .u8 0] 5 (0, 0)) :: (gy, oy) :: (gs, os) :: (N1, .cells (pdC p) 39 (0, 0)) :: lt)) := Lib.hid ho
                clear HO ho
                have HO := HOn
                clear HOn
                clear hS
                have hS := HO.out.tail.tail.kp
                refine takeV (i := 10) (some 101) (v := .slice (some ⟨W15.heap.size, 0, none⟩) 1 1) (w' := W15.alloc (.cells #[.int .u8 p.bi] 5)) rfl rfl (by kernel_rfl) (by rfl) (by clear hS HO; go_simp) (Out.alloc HO.out.tail.tail _ _).tail.kp ?_
                simp only [Act.put, pA, pB, pC]
                have HOn := Lib.hid (Out.alloc HO.out #[.int .u8 p.bi] 5)
                clear HO
                obtain ⟨gb, hgb⟩ : ∃ g, W15.heap.size = g := ⟨_, rfl⟩
                rw [hgb] at HOn ⊢
                generalize hW17 : W15.alloc (.cells #[.int .u8 p.bi] 5) = W17 at HOn ⊢
                clear hW17 hgb
                have HO := HOn
                clear HOn
                clear hS
                have hS := HO.out.tail.tail.tail.kp
                refine takeOut (i := 11) (some 102) (.tmp 98) (.tmp 101) rfl rfl (by kernel_rfl) (by rfl) rfl rfl HO.out (some ⟨gb, 0, none⟩) 1 1 (fun _ => p.bi) rfl (rd_one HO.out.kp.head rfl HP.out.2.2.2.2.1) (fun e => by cases e) (by omega) ?_
                intro v19 W18 ho
                refine ⟨ho.tail.tail.tail.kp, ?_⟩
                simp only [Act.put, pA, pB, pC]
                have HOn : Hid (Out w W18 v19 27 (accZ p (27 + T) 2 6) ((gb, .cells #[.int .u8 p.bi] 5 (0, 0)) :: (gt, ot) :: (gz, .cells #[.int .u8 0, .int .u8 0] 5 (0, 0)) :: (gy, oy) :: (gs, os) :: (N1, .cells (pdC p) 39 (0, 0)) :: lt)) := Lib.hid ho
                clear HO ho
                have HO := HOn
                clear HOn
                clear hS
                have hS := HO.out.tail.tail.tail.kp
                refine tY (i := 12) (some 5) (v := v19) rfl rfl (fun w' hS => by go_simp) hS ?_
                simp only [Act.put, pA, pB, pC]
                clear hS
                refine wpAnyH_done (by kernel_rfl) ?_ _
                replace HO := Lib.hid (HO.out.tail.tail.tail)
                go_wp2_with fail
                go_meet
                case rel => exact HO
              · skip
                simp only [Act.put, pA, pB, pC]
                have HOn := Lib.hid (Out.alloc HO.out #[.int .u8 p.bi] 5)
                clear HO
                obtain ⟨gb, hgb⟩ : ∃ g, W13.heap.size = g := ⟨_, rfl⟩
                rw [hgb] at HOn ⊢
                generalize hW15 : W13.alloc (.cells #[.int .u8 p.bi] 5) = W15 at HOn ⊢
                clear hW15 hgb
                have HO := HOn
                clear HOn
                clear hS
                have hS := HO.out.tail.tail.tail.kp
                refine takeOut (i := 7) (some 98) (.tmp 96) (.tmp 97) rfl rfl (by kernel_rfl) (by rfl) rfl rfl HO.out (some ⟨gz, 0, none⟩) 2 2 (fun _ => 0) rfl (rd_two0 HO.out.kp.tail.tail.head) (fun e => by cases e) (by omega) ?_
                intro v17 W16 ho
                refine ⟨ho.tail.tail.tail.kp, ?_⟩
                simp only [Act.put, pA, pB, pC]
                have HOn : Hid (Out w W16 v17 26 (accZ p (27 + T) 2 5) ((gb, .cells #[.int .u8 p.bi] 5 (0, 0)) :: (gt, ot) :: (gz, .cells #[.int .u8 0, .int .u8 0] 5 (0, 0)) :: (gy, oy) :: (gs, os) :: (N1, .cells (pdC p) 39 (0, 0)) :: lt)) := Lib.hid ho
                clear HO ho
                have HO := HOn
                clear HOn
                clear hS
                have hS := HO.out.tail.tail.tail.kp
                refine takeOut (i := 11) (some 102) (.tmp 98) (.tmp 101) rfl rfl (by kernel_rfl) (by rfl) rfl rfl HO.out (some ⟨gb, 0, none⟩) 1 1 (fun _ => p.bi) rfl (rd_one HO.out.kp.head rfl HP.out.2.2.2.2.1) (fun e => by cases e) (by omega) ?_
                intro v19 W18 ho
                refine ⟨ho.tail.tail.tail.kp, ?_⟩
                simp only [Act.put, pA, pB, pC]
                have HOn : Hid (Out w W18 v19 27 (accZ p (27 + T) 2 6) ((gb, .cells #[.int .u8 p.bi] 5 (0, 0)) :: (gt, ot) :: (gz, .cells #[.int .u8 0, .int .u8 0] 5 (0, 0)) :: (gy, oy) :: (gs, os) :: (N1, .cells (pdC p) 39 (0, 0)) :: lt)) := Lib.hid ho
                clear HO ho
                have HO := HOn
                clear HOn
                clear hS
                have hS := HO.out.tail.tail.tail.kp
                refine tY (i := 12) (some 5) (v := v19) rfl rfl (fun w' hS => by go_simp) hS ?_
                simp only [Act.put, pA, pB, pC]
                clear hS
                refine wpAnyH_done (by kernel_rfl) ?_ _
                replace HO := Lib.hid (HO.out.tail.tail.tail)
                go_wp2_with fail
                go_meet
                case rel => exact HO
            · skip
              simp only [Act.put, pA, pB, pC]
              have HOn := Lib.hid (Out.alloc HO.out #[.int .u8 p.bi] 5)
              clear HO
              obtain ⟨gb, hgb⟩ : ∃ g, W12.heap.size = g := ⟨_, rfl⟩
              rw [hgb] at HOn ⊢
              generalize hW13 : W12.alloc (.cells #[.int .u8 p.bi] 5) = W13 at HOn ⊢
              clear hW13 hgb
              have HO := HOn
              clear HOn
              clear hS
              have hS := HO.out.tail.tail.tail.kp
              refine takeOut (i := 5) (some 96) (.tmp 91) (.tmp 95) rfl rfl (by kernel_rfl) (by rfl) rfl rfl HO.out (some ⟨gt, 0, none⟩) 4 ct (putZ p.sq 4) rfl ((HRt.out _ HO.out.kp.tail.head).rd) (fun e => by cases e) (by omega) ?_
              intro v15 W14 ho
              refine ⟨ho.tail.tail.tail.kp, ?_⟩
              simp only [Act.put, pA, pB, pC]
              have HOn : Hid (Out w W14 v15 24 (accZ p (27 + T) 2 4) ((gb, .cells #[.int .u8 p.bi] 5 (0, 0)) :: (gt, ot) :: (gz, .cells #[.int .u8 0, .int .u8 0] 5 (0, 0)) :: (gy, oy) :: (gs, os) :: (N1, .cells (pdC p) 39 (0, 0)) :: lt)) := Lib.hid ho
              clear HO ho
              have HO := HOn
              clear HOn
              clear hS
              have hS := HO.out.tail.tail.tail.kp
              refine takeOut (i := 7) (some 98) (.tmp 96) (.tmp 97) rfl rfl (by kernel_rfl) (by rfl) rfl rfl HO.out (some ⟨gz, 0, none⟩) 2 2 (fun _ => 0) rfl (rd_two0 HO.out.kp.tail.tail.head) (fun e => by cases e) (by omega) ?_
              intro v17 W16 ho
              refine ⟨ho.tail.tail.tail.kp, ?_⟩
              simp only [Act.put, pA, pB, pC]
              have HOn : Hid (Out w W16 v17 26 (accZ p (27 + T) 2 5) ((gb, .cells #[.int .u8 p.bi] 5 (0, 0)) :: (gt, ot) :: (gz, .cells #[.int .u8 0, .int .u8 0] 5 (0, 0)) :: (gy, oy) :: (gs, os) :: (N1, .cells (pdC p) 39 (0, 0)) :: lt)) := Lib.hid ho
              clear HO ho
              have HO := HOn
              clear HOn
              clear hS
              have hS := HO.out.tail.tail.tail.kp
              refine takeOut (i := 11) (some 102) (.tmp 98) (.tmp 101) rfl rfl (by kernel_rfl) (by rfl) rfl rfl HO.out (some ⟨gb, 0, none⟩) 1 1 (fun _ => p.bi) rfl (rd_one HO.out.kp.head rfl HP.out.2.2.2.2.1) (fun e => by cases e) (by omega) ?_
              intro v19 W18 ho
              refine ⟨ho.tail.tail.tail.kp, ?_⟩
              simp only [Act.put, pA, pB, pC]
              have HOn : Hid (Out w W18 v19 27 (accZ p (27 + T) 2 6) ((gb, .cells #[.int .u8 p.bi] 5 (0, 0)) :: (gt, ot) :: (gz, .cells #[.int .u8 0, .int .u8 0] 5 (0, 0)) :: (gy, oy) :: (gs, os) :: (N1, .cells (pdC p) 39 (0, 0)) :: lt)) := Lib.hid ho
              clear HO ho
              have HO := HOn
              clear HOn
              clear hS
              have hS := HO.out.tail.tail.tail.kp
              refine tY (i := 12) (some 5) (v := v19) rfl rfl (fun w' hS => by go_simp) hS ?_
              simp only [Act.put, pA, pB, pC]
              clear hS
              refine wpAnyH_done (by kernel_rfl) ?_ _
              replace HO := Lib.hid (HO.out.tail.tail.tail)
              go_wp2_with fail
              go_meet
              case rel => exact HO
          · skip
            simp only [Act.put, pA, pB, pC]
            have HOn := Lib.hid (Out.alloc HO.out #[.int .u8 p.bi] 5)
            clear HO
            obtain ⟨gb, hgb⟩ : ∃ g, W11.heap.size = g := ⟨_, rfl⟩
            rw [hgb] at HOn ⊢
            generalize hW12 : W11.alloc (.cells #[.int .u8 p.bi] 5) = W12 at HOn ⊢
            clear hW12 hgb
            have HO := HOn
            clear HOn
            clear hS
            have hS := HO.out.tail.tail.kp
            refine takeCE (i := 4) (some 95) 60 #[.int .u64 (p.sq : Int), .int .i64 4] (R := fun v w' => ∃ g c, v = .slice (some ⟨g, 0, none⟩) 4 c ∧ W12.heap.size ≤ g ∧ Own8 w' g 4 c (putZ p.sq 4) ∧ Below W12.heap.size W12 w') rfl rfl (by kernel_rfl) (by rfl) (by clear hS HO; go_simp) ((bytes_any p.sq 4 W12 (by have := HP.out.2.2.2.1; omega) (by decide) (by decide)).mono fun e w' h => by obtain ⟨g, h1, h2, h3, h4⟩ := h; exact ⟨_, h1, g, 4, rfl, h2, h3, h4⟩) (fun v w' h => by obtain ⟨_, _, _, _, _, h4⟩ := h; exact hS.below h4) ?_
            intro vx W13 h hS2
            obtain ⟨gt, ct, rfl, hgt, hot, hb⟩ := h
            simp only [Act.put, pA, pB, pC]
            obtain ⟨ot, hkt, hrt⟩ := own8_has hot
            have HOn := Lib.hid (HO.out.new hb hgt hkt)
            have HRt := Lib.hid hrt
            clear HO hb hgt hkt hrt hot hS2
            have HO := HOn
            clear HOn
            clear hS
            have hS := HO.out.tail.tail.tail.kp
            refine takeOut (i := 5) (some 96) (.tmp 91) (.tmp 95) rfl rfl (by kernel_rfl) (by rfl) rfl rfl HO.out (some ⟨gt, 0, none⟩) 4 ct (putZ p.sq 4) rfl ((HRt.out _ HO.out.kp.head).rd) (fun e => by cases e) (by omega) ?_
            intro v15 W14 ho
            refine ⟨ho.tail.tail.tail.kp, ?_⟩
            simp only [Act.put, pA, pB, pC]
            have HOn : Hid (Out w W14 v15 24 (accZ p (27 + T) 2 4) ((gt, ot) :: (gb, .cells #[.int .u8 p.bi] 5 (0, 0)) :: (gz, .cells #[.int .u8 0, .int .u8 0] 5 (0, 0)) :: (gy, oy) :: (gs, os) :: (N1, .cells (pdC p) 39 (0, 0)) :: lt)) := Lib.hid ho
            clear HO ho
            have HO := HOn
            clear HOn
            clear hS
            have hS := HO.out.tail.tail.tail.kp
            refine takeOut (i := 7) (some 98) (.tmp 96) (.tmp 97) rfl rfl (by kernel_rfl) (by rfl) rfl rfl HO.out (some ⟨gz, 0, none⟩) 2 2 (fun _ => 0) rfl (rd_two0 HO.out.kp.tail.tail.head) (fun e => by cases e) (by omega) ?_
            intro v17 W16 ho
            refine ⟨ho.tail.tail.tail.kp, ?_⟩
            simp only [Act.put, pA, pB, pC]
            have HOn : Hid (Out w W16 v17 26 (accZ p (27 + T) 2 5) ((gt, ot) :: (gb, .cells #[.int .u8 p.bi] 5 (0, 0)) :: (gz, .cells #[.int .u8 0, .int .u8 0] 5 (0, 0)) :: (gy, oy) :: (gs, os) :: (N1, .cells (pdC p) 39 (0, 0)) :: lt)) := Lib.hid ho
            clear HO ho
            have HO := HOn
            clear HOn
            clear hS
            have hS := HO.out.tail.tail.tail.kp
            refine takeOut (i := 11) (some 102) (.tmp 98) (.tmp 101) rfl rfl (by kernel_rfl) (by rfl) rfl rfl HO.out (some ⟨gb, 0, none⟩) 1 1 (fun _ => p.bi) rfl (rd_one HO.out.kp.tail.head rfl HP.out.2.2.2.2.1) (fun e => by cases e) (by omega) ?_
            intro v19 W18 ho
            refine ⟨ho.tail.tail.tail.kp, ?_⟩
            simp only [Act.put, pA, pB, pC]
            have HOn : Hid (Out w W18 v19 27 (accZ p (27 + T) 2 6) ((gt, ot) :: (gb, .cells #[.int .u8 p.bi] 5 (0, 0)) :: (gz, .cells #[.int .u8 0, .int .u8 0] 5 (0, 0)) :: (gy, oy) :: (gs, os) :: (N1, .cells (pdC p) 39 (0, 0)) :: lt)) := Lib.hid ho
            clear HO ho
            have HO := HOn
            clear HOn
            clear hS
            have hS := HO.out.tail.tail.tail.kp
            refine tY (i := 12) (some 5) (v := v19) rfl rfl (fun w' hS => by go_simp) hS ?_
            simp only [Act.put, pA, pB, pC]
            clear hS
            refine wpAnyH_done (by kernel_rfl) ?_ _
            replace HO := Lib.hid (HO.out.tail.tail.tail)
            go_wp2_with fail
            go_meet
            case rel => exact HO
        · skip
          simp only [Act.put, pA, pB, pC]
          have HOn := Lib.hid (Out.alloc HO.out #[.int .u8 p.bi] 5)
          clear HO
          obtain ⟨gb, hgb⟩ : ∃ g, W10.heap.size = g := ⟨_, rfl⟩
          rw [hgb] at HOn ⊢
          generalize hW11 : W10.alloc (.cells #[.int .u8 p.bi] 5) = W11 at HOn ⊢
          clear hW11 hgb
          have HO := HOn
          clear HOn
          clear hS
          have hS := HO.out.tail.kp
          refine wpAnyH_ready (show Region.ready _ _ _ = [4, 6] from by kernel_rfl) (by simp) (consCE (i := 4) (some 95) 60 #[.int .u64 (p.sq : Int), .int .i64 4] (R := fun v w' => ∃ g c, v = .slice (some ⟨g, 0, none⟩) 4 c ∧ W11.heap.size ≤ g ∧ Own8 w' g 4 c (putZ p.sq 4) ∧ Below W11.heap.size W11 w') rfl rfl (by rfl) (by clear hS HO; go_simp) ((bytes_any p.sq 4 W11 (by have := HP.out.2.2.2.1; omega) (by decide) (by decide)).mono fun e w' h => by obtain ⟨g, h1, h2, h3, h4⟩ := h; exact ⟨_, h1, g, 4, rfl, h2, h3, h4⟩) (fun v w' h => by obtain ⟨_, _, _, _, _, h4⟩ := h; exact hS.below h4) ?_ (consVW (i := 6) (some 97) (v := .slice (some ⟨W11.heap.size, 0, none⟩) 2 2) (w' := W11.alloc (.cells #[.int .u8 0, .int .u8 0] 5)) rfl rfl (by rfl) (by clear hS HO; go_simp) (Out.alloc HO.out.tail _ _).tail.kp ?_ AllReadyH.nil))
          · skip
            intro vx W12 h hS2
            obtain ⟨gt, ct, rfl, hgt, hot, hb⟩ := h
            simp only [Act.put, pA, pB, pC]
            obtain ⟨ot, hkt, hrt⟩ := own8_has hot
            have HOn := Lib.hid (HO.out.new hb hgt hkt)
            have HRt := Lib.hid hrt
            clear HO hb hgt hkt hrt hot hS2
            have HO := HOn
            clear HOn
            clear hS
            have hS := HO.out.tail.tail.kp
            refine wpAnyH_ready (show Region.ready _ _ _ = [5, 6] from by kernel_rfl) (by simp) (consOut (i := 5) (some 96) (.tmp 91) (.tmp 95) rfl rfl (by rfl) rfl rfl HO.out (some ⟨gt, 0, none⟩) 4 ct (putZ p.sq 4) rfl ((HRt.out _ HO.out.kp.head).rd) (fun e => by cases e) (by omega) ?_ (consVW (i := 6) (some 97) (v := .slice (some ⟨W12.heap.size, 0, none⟩) 2 2) (w' := W12.alloc (.cells #[.int .u8 0, .int .u8 0] 5)) rfl rfl (by rfl) (by clear hS HO; go_simp) (Out.alloc HO.out.tail.tail _ _).tail.kp ?_ AllReadyH.nil))
            · skip
              intro v14 W13 ho
              refine ⟨ho.tail.tail.kp, ?_⟩
              simp only [Act.put, pA, pB, pC]
              have HOn : Hid (Out w W13 v14 24 (accZ p (27 + T) 2 4) ((gt, ot) :: (gb, .cells #[.int .u8 p.bi] 5 (0, 0)) :: (gy, oy) :: (gs, os) :: (N1, .cells (pdC p) 39 (0, 0)) :: lt)) := Lib.hid ho
              clear HO ho
              have HO := HOn
              clear HOn
              clear hS
              have hS := HO.out.tail.tail.kp
              refine takeV (i := 6) (some 97) (v := .slice (some ⟨W13.heap.size, 0, none⟩) 2 2) (w' := W13.alloc (.cells #[.int .u8 0, .int .u8 0] 5)) rfl rfl (by kernel_rfl) (by rfl) (by clear hS HO; go_simp) (Out.alloc HO.out.tail.tail _ _).tail.kp ?_
              simp only [Act.put, pA, pB, pC]
              have HOn := Lib.hid (Out.alloc HO.out #[.int .u8 0, .int .u8 0] 5)
              clear HO
              obtain ⟨gz, hgz⟩ : ∃ g, W13.heap.size = g := ⟨_, rfl⟩
              rw [hgz] at HOn ⊢
              generalize hW15 : W13.alloc (.cells #[.int .u8 0, .int .u8 0] 5) = W15 at HOn ⊢
              clear hW15 hgz
              have HO := HOn
              clear HOn
              clear hS
              have hS := HO.out.tail.tail.tail.kp
              refine takeOut (i := 7) (some 98) (.tmp 96) (.tmp 97) rfl rfl (by kernel_rfl) (by rfl) rfl rfl HO.out (some ⟨gz, 0, none⟩) 2 2 (fun _ => 0) rfl (rd_two0 HO.out.kp.head) (fun e => by cases e) (by omega) ?_
              intro v17 W16 ho
              refine ⟨ho.tail.tail.tail.kp, ?_⟩
              simp only [Act.put, pA, pB, pC]
              have HOn : Hid (Out w W16 v17 26 (accZ p (27 + T) 2 5) ((gz, .cells #[.int .u8 0, .int .u8 0] 5 (0, 0)) :: (gt, ot) :: (gb, .cells #[.int .u8 p.bi] 5 (0, 0)) :: (gy, oy) :: (gs, os) :: (N1, .cells (pdC p) 39 (0, 0)) :: lt)) := Lib.hid ho
              clear HO ho
              have HO := HOn
              clear HOn
              clear hS
              have hS := HO.out.tail.tail.tail.kp
              refine takeOut (i := 11) (some 102) (.tmp 98) (.tmp 101) rfl rfl (by kernel_rfl) (by rfl) rfl rfl HO.out (some ⟨gb, 0, none⟩) 1 1 (fun _ => p.bi) rfl (rd_one HO.out.kp.tail.tail.head rfl HP.out.2.2.2.2.1) (fun e => by cases e) (by omega) ?_
              intro v19 W18 ho
              refine ⟨ho.tail.tail.tail.kp, ?_⟩
              simp only [Act.put, pA, pB, pC]
              have HOn : Hid (Out w W18 v19 27 (accZ p (27 + T) 2 6) ((gz, .cells #[.int .u8 0, .int .u8 0] 5 (0, 0)) :: (gt, ot) :: (gb, .cells #[.int .u8 p.bi] 5 (0, 0)) :: (gy, oy) :: (gs, os) :: (N1, .cells (pdC p) 39 (0, 0)) :: lt)) := Lib.hid ho
              clear HO ho
              have HO := HOn
              clear HOn
              clear hS
              have hS := HO.out.tail.tail.tail.kp
              refine tY (i := 12) (some 5) (v := v19) rfl rfl (fun w' hS => by go_simp) hS ?_
              simp only [Act.put, pA, pB, pC]
              clear hS
              refine wpAnyH_done (by kernel_rfl) ?_ _
              replace HO := Lib.hid (HO.out.tail.tail.tail)
              go_wp2_with fail
              go_meet
              case rel => exact HO
            · skip
              simp only [Act.put, pA, pB, pC]
              have HOn := Lib.hid (Out.alloc HO.out #[.int .u8 0, .int .u8 0] 5)
              clear HO
              obtain ⟨gz, hgz⟩ : ∃ g, W12.heap.size = g := ⟨_, rfl⟩
              rw [hgz] at HOn ⊢
              generalize hW13 : W12.alloc (.cells #[.int .u8 0, .int .u8 0] 5) = W13 at HOn ⊢
              clear hW13 hgz
              have HO := HOn
              clear HOn
              clear hS
              have hS := HO.out.tail.tail.tail.kp
              refine takeOut (i := 5) (some 96) (.tmp 91) (.tmp 95) rfl rfl (by kernel_rfl) (by rfl) rfl rfl HO.out (some ⟨gt, 0, none⟩) 4 ct (putZ p.sq 4) rfl ((HRt.out _ HO.out.kp.tail.head).rd) (fun e => by cases e) (by omega) ?_
              intro v15 W14 ho
              refine ⟨ho.tail.tail.tail.kp, ?_⟩
              simp only [Act.put, pA, pB, pC]
              have HOn : Hid (Out w W14 v15 24 (accZ p (27 + T) 2 4) ((gz, .cells #[.int .u8 0, .int .u8 0] 5 (0, 0)) :: (gt, ot) :: (gb, .cells #[.int .u8 p.bi] 5 (0, 0)) :: (gy, oy) :: (gs, os) :: (N1, .cells (pdC p) 39 (0, 0)) :: lt)) := Lib.hid ho
              clear HO ho
              have HO := HOn
              clear HOn
              clear hS
              have hS := HO.out.tail.tail.tail.kp
              refine takeOut (i := 7) (some 98) (.tmp 96) (.tmp 97) rfl rfl (by kernel_rfl) (by rfl) rfl rfl HO.out (some ⟨gz, 0, none⟩) 2 2 (fun _ => 0) rfl (rd_two0 HO.out.kp.head) (fun e => by cases e) (by omega) ?_
              intro v17 W16 ho
              refine ⟨ho.tail.tail.tail.kp, ?_⟩
              simp only [Act.put, pA, pB, pC]
              have HOn : Hid (Out w W16 v17 26 (accZ p (27 + T) 2 5) ((gz, .cells #[.int .u8 0, .int .u8 0] 5 (0, 0)) :: (gt, ot) :: (gb, .cells #[.int .u8 p.bi] 5 (0, 0)) :: (gy, oy) :: (gs, os) :: (N1, .cells (pdC p) 39 (0, 0)) :: lt)) := Lib.hid ho
              clear HO ho
              have HO := HOn
              clear HOn
              clear hS
              have hS := HO.out.tail.tail.tail.kp
              refine takeOut (i := 11) (some 102) (.tmp 98) (.tmp 101) rfl rfl (by kernel_rfl) (by rfl) rfl rfl HO.out (some ⟨gb, 0, none⟩) 1 1 (fun _ => p.bi) rfl (rd_one HO.out.kp.tail.tail.head rfl HP.out.2.2.2.2.1) (fun e => by cases e) (by omega) ?_
              intro v19 W18 ho
              refine ⟨ho.tail.tail.tail.kp, ?_⟩
              simp only [Act.put, pA, pB, pC]
              have HOn : Hid (Out w W18 v19 27 (accZ p (27 + T) 2 6) ((gz, .cells #[.int .u8 0, .int .u8 0] 5 (0, 0)) :: (gt, ot) :: (gb, .cells #[.int .u8 p.bi] 5 (0, 0)) :: (gy, oy) :: (gs, os) :: (N1, .cells (pdC p) 39 (0, 0)) :: lt)) := Lib.hid ho
              clear HO ho
              have HO := HOn
              clear HOn
              clear hS
              have hS := HO.out.tail.tail.tail.kp
              refine tY (i := 12) (some 5) (v := v19) rfl rfl (fun w' hS => by go_simp) hS ?_
              simp only [Act.put, pA, pB, pC]
              clear hS
              refine wpAnyH_done (by kernel_rfl) ?_ _
              replace HO := Lib.hid (HO.out.tail.tail.tail)
              go_wp2_with fail
              go_meet
              case rel => exact HO
          · skip
            simp only [Act.put, pA, pB, pC]
            have HOn := Lib.hid (Out.alloc HO.out #[.int .u8 0, .int .u8 0] 5)
            clear HO
            obtain ⟨gz, hgz⟩ : ∃ g, W11.heap.size = g := ⟨_, rfl⟩
            rw [hgz] at HOn ⊢
            generalize hW12 : W11.alloc (.cells #[.int .u8 0, .int .u8 0] 5) = W12 at HOn ⊢
            clear hW12 hgz
            have HO := HOn
            clear HOn
            clear hS
            have hS := HO.out.tail.tail.kp
            refine takeCE (i := 4) (some 95) 60 #[.int .u64 (p.sq : Int), .int .i64 4] (R := fun v w' => ∃ g c, v = .slice (some ⟨g, 0, none⟩) 4 c ∧ W12.heap.size ≤ g ∧ Own8 w' g 4 c (putZ p.sq 4) ∧ Below W12.heap.size W12 w') rfl rfl (by kernel_rfl) (by rfl) (by clear hS HO; go_simp) ((bytes_any p.sq 4 W12 (by have := HP.out.2.2.2.1; omega) (by decide) (by decide)).mono fun e w' h => by obtain ⟨g, h1, h2, h3, h4⟩ := h; exact ⟨_, h1, g, 4, rfl, h2, h3, h4⟩) (fun v w' h => by obtain ⟨_, _, _, _, _, h4⟩ := h; exact hS.below h4) ?_
            intro vx W13 h hS2
            obtain ⟨gt, ct, rfl, hgt, hot, hb⟩ := h
            simp only [Act.put, pA, pB, pC]
            obtain ⟨ot, hkt, hrt⟩ := own8_has hot
            have HOn := Lib.hid (HO.out.new hb hgt hkt)
            have HRt := Lib.hid hrt
            clear HO hb hgt hkt hrt hot hS2
            have HO := HOn
            clear HOn
            clear hS
            have hS := HO.out.tail.tail.tail.kp
            refine takeOut (i := 5) (some 96) (.tmp 91) (.tmp 95) rfl rfl (by kernel_rfl) (by rfl) rfl rfl HO.out (some ⟨gt, 0, none⟩) 4 ct (putZ p.sq 4) rfl ((HRt.out _ HO.out.kp.head).rd) (fun e => by cases e) (by omega) ?_
            intro v15 W14 ho
            refine ⟨ho.tail.tail.tail.kp, ?_⟩
            simp only [Act.put, pA, pB, pC]
            have HOn : Hid (Out w W14 v15 24 (accZ p (27 + T) 2 4) ((gt, ot) :: (gz, .cells #[.int .u8 0, .int .u8 0] 5 (0, 0)) :: (gb, .cells #[.int .u8 p.bi] 5 (0, 0)) :: (gy, oy) :: (gs, os) :: (N1, .cells (pdC p) 39 (0, 0)) :: lt)) := Lib.hid ho
            clear HO ho
            have HO := HOn
            clear HOn
            clear hS
            have hS := HO.out.tail.tail.tail.kp
            refine takeOut (i := 7) (some 98) (.tmp 96) (.tmp 97) rfl rfl (by kernel_rfl) (by rfl) rfl rfl HO.out (some ⟨gz, 0, none⟩) 2 2 (fun _ => 0) rfl (rd_two0 HO.out.kp.tail.head) (fun e => by cases e) (by omega) ?_
            intro v17 W16 ho
            refine ⟨ho.tail.tail.tail.kp, ?_⟩
            simp only [Act.put, pA, pB, pC]
            have HOn : Hid (Out w W16 v17 26 (accZ p (27 + T) 2 5) ((gt, ot) :: (gz, .cells #[.int .u8 0, .int .u8 0] 5 (0, 0)) :: (gb, .cells #[.int .u8 p.bi] 5 (0, 0)) :: (gy, oy) :: (gs, os) :: (N1, .cells (pdC p) 39 (0, 0)) :: lt)) := Lib.hid ho
            clear HO ho
            have HO := HOn
            clear HOn
            clear hS
            have hS := HO.out.tail.tail.tail.kp
            refine takeOut (i := 11) (some 102) (.tmp 98) (.tmp 101) rfl rfl (by kernel_rfl) (by rfl) rfl rfl HO.out (some ⟨gb, 0, none⟩) 1 1 (fun _ => p.bi) rfl (rd_one HO.out.kp.tail.tail.head rfl HP.out.2.2.2.2.1) (fun e => by cases e) (by omega) ?_
            intro v19 W18 ho
            refine ⟨ho.tail.tail.tail.kp, ?_⟩
            simp only [Act.put, pA, pB, pC]
            have HOn : Hid (Out w W18 v19 27 (accZ p (27 + T) 2 6) ((gt, ot) :: (gz, .cells #[.int .u8 0, .int .u8 0] 5 (0, 0)) :: (gb, .cells #[.int .u8 p.bi] 5 (0, 0)) :: (gy, oy) :: (gs, os) :: (N1, .cells (pdC p) 39 (0, 0)) :: lt)) := Lib.hid ho
            clear HO ho
            have HO := HOn
            clear HOn
            clear hS
            have hS := HO.out.tail.tail.tail.kp
            refine tY (i := 12) (some 5) (v := v19) rfl rfl (fun w' hS => by go_simp) hS ?_
            simp only [Act.put, pA, pB, pC]
            clear hS
            refine wpAnyH_done (by kernel_rfl) ?_ _
            replace HO := Lib.hid (HO.out.tail.tail.tail)
            go_wp2_with fail
            go_meet
            case rel => exact HO
  case rest =>
  clear HO c0
  have HO := hcut
  clear hcut
  go_wp2_with (at_builtin; refine wpList_out rfl (.tmp 131) (.tmp 132) rfl rfl HO.out TA T Tc (J L p.m) rfl (HTR.out _ HO.out.kp.tail.tail.tail) HTN.out (by omega) ?_; intro v9 w9 ho9; have HO9 := Lib.hid ho9; clear ho9 HO; refine Hid.out ?_)
  refine Lib.hid ?_
  have c0 : w9.cell? ⟨N1, 0, none⟩ = some (.int .u8 K) := (cell_of_row w9 _ 0 _ _ _ HO9.out.kp.tail.tail.head).trans a0
  have HO : Hid (Out w w9 v9 (27 + T) (wZ p 2 L) ((gy, oy) :: (gs, os) :: (N1, .cells (pdC p) 39 (0, 0)) :: lt)) := Lib.hid (by rw [← HWZ.out]; exact HO9.out)
  clear HO9
  obtain ⟨go, co, rfl, hgo, hoo⟩ := own_ofB HO.out.1 (by omega)
  have HOO := Lib.hid hoo
  have hcap := hoo.caps
  have HBB := Lib.hid HO.out.2.1
  clear hoo HO
  go_wp2_with fail
  refine (HLS.out _).mono ?_
  rintro e wx ⟨rfl, rfl⟩
  have hq1 : 12 ≤ co := by omega
  have hN2 := HN.out
  go_wp2_with fail
  refine (check_ok go 12 (27 + T - 12) (co - 12) (fun j => wZ p 2 L (12 + j)) 12 _ (Row8.shift HOO.out.row 12 _ (by omega)) (by omega) (by omega) (by omega)).mono ?_
  rintro e wx ⟨rfl, rfl⟩
  obtain ⟨x, hx⟩ : ∃ x, chkX (fun j => wZ p 2 L (12 + j)) 12 (27 + T - 12) = x := ⟨_, rfl⟩
  obtain ⟨y, hy⟩ : ∃ x, chkY (fun j => wZ p 2 L (12 + j)) 12 (27 + T - 12) = x := ⟨_, rfl⟩
  have hb := chk_bd (fun j => wZ p 2 L (12 + j)) 12 (27 + T - 12)
  rw [hx, hy] at hb
  have HX := Lib.hid hx
  have HY := Lib.hid hy
  rw [show ((12 : Int).toNat) = 12 from rfl, hx, hy]
  clear hx hy
  obtain ⟨_, _, _, _, hb1, hb2, hb3, hb4⟩ := hb
  have c24 := own_at HOO.out 24 (by omega)
  have c25 := own_at HOO.out 25 (by omega)
  have f24 := Own8.free HOO.out
  have wx1 : IntKind.u8.wrap x = x := by simp [IntKind.wrap, IntKind.signed, IntKind.bits]; omega
  have wy1 : IntKind.u8.wrap y = y := by simp [IntKind.wrap, IntKind.signed, IntKind.bits]; omega
  go_wp2_with fail
  go_ret
  exact ⟨_, _, rfl, hgo, by rw [HPZ.out]; exact sg_own HOO.out (by omega) x y HX.out HY.out (by omega) (by omega), (HBB.out.setCell (p := ⟨go, 24, none⟩) hgo _).setCell (p := ⟨go, 25, none⟩) hgo _⟩
end Go.Proofs.YtkiaijmhoikdiaaGreat

/- The document's DocWrite: what it answers, for every packet. Each theorem states its conditions. -/
namespace Go.Proofs.YtkiaijmhoikdiaaGreat
open Go.RowKit
set_option linter.unusedVariables false

theorem cls_cases (k : Int) (q : Nat) (h : cls k = q) (hq : q ≤ 4) : (k = 17 ∧ q = 0) ∨ (k = 15 ∧ q = 1) ∨ (k = 16 ∧ q = 1) ∨ (k = 18 ∧ q = 2) ∨ (k = 20 ∧ q = 2) ∨ (k = 24 ∧ q = 3) ∨ (k = 25 ∧ q = 3) ∨ (k = 26 ∧ q = 4) ∨ (k = 27 ∧ q = 4) := by
  unfold cls at h
  (repeat' split at h) <;> omega
theorem refWrite_any (p : Pd) (q : Nat) (hk : cls p.kd = q) (hq : q ≤ 4) (hp : PdOk p) (hf : fitP p q = true) (L : Nat → It) (hm : ∀ k, k < p.m → ¬ bad L k) (hn : hdN q + sz L p.m ≤ 1492) (w : World) (hin : PdIn w p L) :
    Calls Tryz.prog 27 #[.agg (pdC p)] w (RwP w (hdN q + sz L p.m) (pdZ p q L)) := by
  rcases cls_cases p.kd q hk hq with ⟨h, rfl⟩ | ⟨h, rfl⟩ | ⟨h, rfl⟩ | ⟨h, rfl⟩ | ⟨h, rfl⟩ | ⟨h, rfl⟩ | ⟨h, rfl⟩ | ⟨h, rfl⟩ | ⟨h, rfl⟩
  · exact refWrite_17 p h hp hf L hm hn w hin
  · exact refWrite_15 p h hp hf L hm hn w hin
  · exact refWrite_16 p h hp hf L hm hn w hin
  · exact refWrite_K p 18 (.inl rfl) h hp hf L hm hn w hin
  · exact refWrite_K p 20 (.inr rfl) h hp hf L hm hn w hin
  · exact refWrite_24 p h hp hf L hm hn w hin
  · exact refWrite_25 p h hp hf L hm hn w hin
  · exact refWrite_26 p h hp hf L hm hn w hin
  · exact refWrite_27 p h hp hf L hm hn w hin
theorem refFields_any (p : Pd) (q : Nat) (hk : cls p.kd = q) (hq : q ≤ 4) (hp : PdOk p) (w : World) :
    Calls Tryz.prog 24 #[.agg (pdC p)] w fun e w' => e = .returned (.bool (fitP p q)) ∧ Below w.heap.size w w' := by
  have h0 := hp.1.2.1.1
  rcases cls_cases p.kd q hk hq with ⟨h, rfl⟩ | ⟨h, rfl⟩ | ⟨h, rfl⟩ | ⟨h, rfl⟩ | ⟨h, rfl⟩ | ⟨h, rfl⟩ | ⟨h, rfl⟩ | ⟨h, rfl⟩ | ⟨h, rfl⟩
  · refine fields_17 p h _ ?_ w
    rw [Bool.eq_iff_iff]
    simp [fitP, fitsTo, flC, fAt, fitB]
    omega
  · refine fields_15 p h _ ?_ w
    rw [Bool.eq_iff_iff]
    simp [fitP, fitsTo, flC, fAt, fitB]
    omega
  · refine fields_16 p h _ ?_ w
    rw [Bool.eq_iff_iff]
    simp [fitP, fitsTo, flC, fAt, fitB]
    omega
  · refine fields_18 p h _ ?_ w
    rw [Bool.eq_iff_iff]
    simp [fitP, fitsTo, flC, fAt, fitB]
  · refine fields_20 p h _ ?_ w
    rw [Bool.eq_iff_iff]
    simp [fitP, fitsTo, flC, fAt, fitB]
  · exact fields_24 p h _ (by simp [fitP, fitsTo, flC, fAt, fitB]) w
  · exact fields_25 p h _ (by simp [fitP, fitsTo, flC, fAt, fitB]) w
  · exact fields_26 p h _ (by simp [fitP, fitsTo, flC, fAt, fitB]) w
  · exact fields_27 p h _ (by simp [fitP, fitsTo, flC, fAt, fitB]) w
set_option maxHeartbeats 4000000 in
set_option maxRecDepth 100000 in
theorem refFields_none (p : Pd) (hk : cls p.kd = 5) (w : World) : Calls Tryz.prog 24 #[.agg (pdC p)] w fun e w' => e = .returned (.bool false) ∧ Below w.heap.size w w' := by
  have a0 := pdC_0 p
  have HH := Lib.hid (refHead_none p.kd hk)
  have HB := Lib.hid ((bself w).alloc (Nat.le_refl _) (.cells (pdC p) 39))
  clear hk
  go_enter Tryz.func24, Tryz.ntmps24
  go_wp2_with fail
  refine (HH.out _).mono ?_
  rintro e w1 ⟨rfl, rfl⟩
  go_wp2_with fail
  go_ret
  exact ⟨rfl, HB.out⟩
set_option maxHeartbeats 4000000 in
set_option maxRecDepth 100000 in
theorem docWrite_1 (p : Pd) (h : cls p.kd = 5 ∨ fitP p (cls p.kd) = false) (hp : PdOk p) (w : World) : Calls Tryz.prog 7 #[.agg (pdC p)] w fun e w' => e = .returned (.tuple #[.slice none 0 0, .int .i64 1]) ∧ Below w.heap.size w w' := by
  have HF : Hid (∀ w : World, Calls Tryz.prog 24 #[.agg (pdC p)] w fun e w' => e = .returned (.bool false) ∧ Below w.heap.size w w') := Lib.hid fun w => by
    by_cases h5 : cls p.kd = 5
    · exact refFields_none p h5 w
    · have := refFields_any p _ rfl (by have := cls_le p.kd; omega) hp w
      rw [h.resolve_left h5] at this
      exact this
  obtain ⟨W1, hW1⟩ : ∃ W1, w.alloc (.cells (pdC p) 39) = W1 := ⟨_, rfl⟩
  obtain ⟨X, hX⟩ : ∃ X, w.heap.size = X := ⟨_, rfl⟩
  have HX0 : Hid (PdT 39 W1 X p) := Lib.hid (by rw [← hW1, ← hX]; exact heap_alloc_new w _)
  have HB0 : Hid (Below w.heap.size w W1) := Lib.hid (by rw [← hW1]; exact (bself w).alloc (Nat.le_refl _) _)
  have HW1 := Lib.hid hW1
  have HXW := Lib.hid hX
  clear hW1 hX
  clear h hp
  go_enter Tryz.func7, Tryz.ntmps7
  go_upto_region 1 with fail
  rw [HW1.out, HXW.out]
  go_wp2_with (refine wpList_ldr (op := ⟨some 6, _, _, _, _, _⟩) (by rfl) 39 (.tmp 1) rfl X 0 rfl (pdC p) _ (PdT.all (t := 39) (p := p) HX0.out) Tryz.underlying39 rfl info_pdR ?_; refine Hid.out ?_)
  refine Lib.hid ?_
  go_wp2_with fail
  refine (HF.out W1).mono ?_
  rintro e w1 ⟨rfl, hb⟩
  have HB1 := Lib.hid (HB0.out.trans (hb.mono HB0.out.size))
  clear hb
  go_wp2_with fail
  go_ret2
  exact ⟨rfl, HB1.out⟩
set_option maxHeartbeats 4000000 in
set_option maxRecDepth 100000 in
theorem docWrite_2 (p : Pd) (q : Nat) (hk : cls p.kd = q) (hq : q ≤ 4) (hp : PdOk p) (hfit : fitP p q = true) (L : Nat → It) (m0 : Nat) (hm : JEnds L p.m m0) (hl : m0 < p.m ∨ 1492 < hdN q + sz L p.m) (w : World) (hin : PdIn w p L) : Calls Tryz.prog 7 #[.agg (pdC p)] w fun e w' => e = .returned (.tuple #[.slice none 0 0, .int .i64 2]) ∧ Below w.heap.size w w' := by
  have HF := refFields_any p q hk hq hp
  rw [hfit] at HF
  have HF := Lib.hid HF
  have HHD := Lib.hid (refHead_any p.kd q hk hq)
  have h17 := hdN_bd q hq
  obtain ⟨W1, hW1⟩ : ∃ W1, w.alloc (.cells (pdC p) 39) = W1 := ⟨_, rfl⟩
  obtain ⟨X, hX⟩ : ∃ X, w.heap.size = X := ⟨_, rfl⟩
  have HX0 : Hid (PdT 39 W1 X p) := Lib.hid (by rw [← hW1, ← hX]; exact heap_alloc_new w _)
  have HB0 : Hid (Below w.heap.size w W1) := Lib.hid (by rw [← hW1]; exact (bself w).alloc (Nat.le_refl _) _)
  have HW1 := Lib.hid hW1
  have HXW := Lib.hid hX
  clear hW1 hX
  have HIN := Lib.hid hin
  have HM := Lib.hid hm
  have hszb : m0 = p.m → sz L p.m ≤ 1492 := fun e => by
    have := sz_le L p.m m0 hm
    rwa [e] at this
  obtain ⟨T, hT⟩ : ∃ T, sz L p.m = T := ⟨_, rfl⟩
  rw [hT] at hl hszb
  have HT := Lib.hid hT
  have HL := Lib.hid hl
  have HSB := Lib.hid hszb
  have HMM := Lib.hid hm.1
  clear hT hl hk hq hp hfit hm hin hszb
  go_enter Tryz.func7, Tryz.ntmps7
  go_upto_region 1 with fail
  rw [HW1.out, HXW.out]
  go_wp2_with (refine wpList_ldr (op := ⟨some 6, _, _, _, _, _⟩) (by rfl) 39 (.tmp 1) rfl X 0 rfl (pdC p) _ (PdT.all (t := 39) (p := p) HX0.out) Tryz.underlying39 rfl info_pdR ?_; refine Hid.out ?_)
  refine Lib.hid ?_
  go_wp2_with fail
  refine (HF.out W1).mono ?_
  rintro e w1 ⟨rfl, hb⟩
  have HX1 : Hid (PdT 39 w1 X p) := Lib.hid ((hb.block _ (Array.getElem?_eq_some_iff.1 HX0.out).1).trans HX0.out)
  have HB1 := Lib.hid (HB0.out.trans (hb.mono HB0.out.size))
  have c0 : w1.cell? ⟨X, 0, none⟩ = some (.int .u8 p.kd) := (HX1.out.cell 0).trans (pdC_0 p)
  have c46 : w1.cell? ⟨X, 46, none⟩ = some (.slice p.A p.m p.c) := (HX1.out.cell 46).trans (pdC_46 p)
  clear hb HX0 HB0
  go_wp2_with fail
  refine (docjoin_any p.A p.m p.c m0 L _ (HIN.out.1.below HB1.out) HIN.out.2.1 HIN.out.2.2 HM.out).mono ?_
  rintro e w2 (⟨he, v, rfl, ho, hb⟩ | ⟨he, rfl, hb⟩)
  · have HX2 : Hid (PdT 39 w2 X p) := Lib.hid ((hb.block _ (Array.getElem?_eq_some_iff.1 HX1.out).1).trans HX1.out)
    have HB2 := Lib.hid (HB1.out.trans (hb.mono HB1.out.size))
    rw [HT.out] at ho
    obtain ⟨TA, Tc, lt, rfl, hTc, hTm, _⟩ := own_has (w := w2) (z := J L p.m) ⟨ho, J_rd HIN.out.1 (by rw [← he]; exact HM.out.2.1)⟩
    have d0 : w2.cell? ⟨X, 0, none⟩ = some (.int .u8 p.kd) := (HX2.out.cell 0).trans (pdC_0 p)
    have hTb := HSB.out he
    have hlong : 1492 < hdN q + T := by
      have := HL.out
      omega
    clear ho hb c0 c46 HX1 HB1 he
    obtain ⟨H, hH⟩ : ∃ H, hdN q = H := ⟨_, rfl⟩
    rw [hH] at h17 hlong HHD
    have hlong' : decide ((1492 : Int) < (H : Int) + (T : Int)) = true := by simp; omega
    clear hH hlong
    go_wp2_with fail
    refine (HHD.out _).mono ?_
    rintro e w3 ⟨rfl, rfl⟩
    go_wp2_with fail
    go_ret2
    exact ⟨rfl, HB2.out⟩
  · have HB2 := Lib.hid (HB1.out.trans (hb.mono HB1.out.size))
    clear hb c0 c46
    go_wp2_with fail
    go_ret2
    exact ⟨rfl, HB2.out⟩
set_option maxHeartbeats 4000000 in
set_option maxRecDepth 100000 in
theorem docWrite_0 (p : Pd) (q : Nat) (hk : cls p.kd = q) (hq : q ≤ 4) (hp : PdOk p) (hfit : fitP p q = true) (L : Nat → It) (hm : JEnds L p.m p.m) (hl : hdN q + sz L p.m ≤ 1492) (w : World) (hin : PdIn w p L) :
    Calls Tryz.prog 7 #[.agg (pdC p)] w fun e w' => ∃ g c, e = .returned (.tuple #[.slice (some ⟨g, 0, none⟩) (hdN q + sz L p.m) c, .int .i64 0]) ∧ w.heap.size ≤ g ∧ Own8 w' g (hdN q + sz L p.m) c (pdZ p q L) ∧ Below w.heap.size w w' := by
  have HF := refFields_any p q hk hq hp
  rw [hfit] at HF
  have HF := Lib.hid HF
  have HHD := Lib.hid (refHead_any p.kd q hk hq)
  have h17 := hdN_bd q hq
  obtain ⟨W1, hW1⟩ : ∃ W1, w.alloc (.cells (pdC p) 39) = W1 := ⟨_, rfl⟩
  obtain ⟨X, hX⟩ : ∃ X, w.heap.size = X := ⟨_, rfl⟩
  have HX0 : Hid (PdT 39 W1 X p) := Lib.hid (by rw [← hW1, ← hX]; exact heap_alloc_new w _)
  have HB0 : Hid (Below w.heap.size w W1) := Lib.hid (by rw [← hW1]; exact (bself w).alloc (Nat.le_refl _) _)
  have HW1 := Lib.hid hW1
  have HXW := Lib.hid hX
  clear hW1 hX
  have HIN := Lib.hid hin
  have HM := Lib.hid hm
  have HW := Lib.hid (fun w1 (h : PdIn w1 p L) => refWrite_any p q hk hq hp hfit L hm.2.1 hl w1 h)
  obtain ⟨T, hT⟩ : ∃ T, sz L p.m = T := ⟨_, rfl⟩
  rw [hT] at hl HW ⊢
  have HT := Lib.hid hT
  clear hT hk hq hp hfit hm hin
  go_enter Tryz.func7, Tryz.ntmps7
  go_upto_region 1 with fail
  rw [HW1.out, HXW.out]
  go_wp2_with (refine wpList_ldr (op := ⟨some 6, _, _, _, _, _⟩) (by rfl) 39 (.tmp 1) rfl X 0 rfl (pdC p) _ (PdT.all (t := 39) (p := p) HX0.out) Tryz.underlying39 rfl info_pdR ?_; refine Hid.out ?_)
  refine Lib.hid ?_
  go_wp2_with fail
  refine (HF.out W1).mono ?_
  rintro e w1 ⟨rfl, hb⟩
  have HX1 : Hid (PdT 39 w1 X p) := Lib.hid ((hb.block _ (Array.getElem?_eq_some_iff.1 HX0.out).1).trans HX0.out)
  have HB1 := Lib.hid (HB0.out.trans (hb.mono HB0.out.size))
  have c0 : w1.cell? ⟨X, 0, none⟩ = some (.int .u8 p.kd) := (HX1.out.cell 0).trans (pdC_0 p)
  have c46 : w1.cell? ⟨X, 46, none⟩ = some (.slice p.A p.m p.c) := (HX1.out.cell 46).trans (pdC_46 p)
  clear hb HX0 HB0
  go_wp2_with fail
  refine (docjoin_any p.A p.m p.c p.m L _ (HIN.out.1.below HB1.out) HIN.out.2.1 HIN.out.2.2 HM.out).mono ?_
  rintro e w2 (⟨he, v, rfl, ho, hb⟩ | ⟨he, rfl, hb⟩)
  · have HX2 : Hid (PdT 39 w2 X p) := Lib.hid ((hb.block _ (Array.getElem?_eq_some_iff.1 HX1.out).1).trans HX1.out)
    have HB2 := Lib.hid (HB1.out.trans (hb.mono HB1.out.size))
    rw [HT.out] at ho
    obtain ⟨TA, Tc, lt, rfl, hTc, hTm, _⟩ := own_has (w := w2) (z := J L p.m) ⟨ho, J_rd HIN.out.1 HM.out.2.1⟩
    have d0 : w2.cell? ⟨X, 0, none⟩ = some (.int .u8 p.kd) := (HX2.out.cell 0).trans (pdC_0 p)
    clear ho hb c0 c46 HX1 HB1 he
    obtain ⟨H, hH⟩ : ∃ H, hdN q = H := ⟨_, rfl⟩
    rw [hH] at h17 hl HHD HW
    have HH := Lib.hid hH
    have hlong' : decide ((1492 : Int) < (H : Int) + (T : Int)) = false := by simp; omega
    clear hH
    go_wp2_with fail
    refine (HHD.out _).mono ?_
    rintro e w3 ⟨rfl, rfl⟩
    go_wp2_with (refine wpList_ldr (op := ⟨some 26, _, _, _, _, _⟩) (by rfl) 39 (.tmp 1) rfl X 0 rfl (pdC p) _ (PdT.all (t := 39) (p := p) HX2.out) Tryz.underlying39 rfl info_pdR ?_; refine Hid.out ?_)
    refine Lib.hid ?_
    go_wp2_with fail
    refine (HW.out w2 ⟨HIN.out.1.below HB2.out, HIN.out.2⟩).mono ?_
    rintro e w3 ⟨g, c, rfl, hg, hO, hb⟩
    have HO := Lib.hid hO
    have HB3 := Lib.hid (HB2.out.trans (hb.mono HB2.out.size))
    have hg' : w.heap.size ≤ g := Nat.le_trans HB2.out.size hg
    clear hO hb hg
    go_wp2_with fail
    go_ret2
    rw [HH.out]
    exact ⟨_, _, rfl, hg', HO.out, HB3.out⟩
  · omega
theorem docWrite_any (p : Pd) (hp : PdOk p) (L : Nat → It) (m0 : Nat) (hm : JEnds L p.m m0) (w : World) (hin : PdIn w p L) :
    Calls Tryz.prog 7 #[.agg (pdC p)] w (WrP w (wrN p L m0) (wrX p L m0) (wrZ p L m0)) := by
  have hc := cls_le p.kd
  by_cases h1 : cls p.kd = 5 ∨ fitP p (cls p.kd) = false
  · obtain ⟨e1, e2, e3⟩ := wr_1 p L m0 h1
    rw [e1, e2, e3]
    exact (docWrite_1 p h1 hp w).mono fun e w' h => wr_none (by decide) h.1 h.2
  · have hq : cls p.kd ≤ 4 := by omega
    have hf : fitP p (cls p.kd) = true := by
      cases hf : fitP p (cls p.kd)
      · exact absurd (.inr hf) h1
      · rfl
    by_cases hl : m0 < p.m ∨ 1492 < hdN (cls p.kd) + sz L p.m
    · obtain ⟨e1, e2, e3⟩ := wr_2 p L m0 h1 hl
      rw [e1, e2, e3]
      exact (docWrite_2 p _ rfl hq hp hf L m0 hm hl w hin).mono fun e w' h => wr_none (by decide) h.1 h.2
    · obtain rfl : m0 = p.m := by have := hm.1; omega
      obtain ⟨e1, e2, e3⟩ := wr_0 p L p.m h1 hl
      rw [e1, e2, e3]
      refine (docWrite_0 p _ rfl hq hp hf L hm (by omega) w hin).mono fun e w' h => ?_
      obtain ⟨g, c, rfl, hg, hO, hb⟩ := h
      exact ⟨_, _, rfl, hO.rd, hO.caps.1, hO.caps.2, hb, fun _ => ⟨g, rfl, hg, hO⟩⟩
end Go.Proofs.YtkiaijmhoikdiaaGreat

/- The law's packet; its first question. Each theorem states its conditions. -/
namespace Go.Proofs.YtkiaijmhoikdiaaGreat
open Go.RowKit
set_option linter.unusedVariables false
set_option linter.unusedSimpArgs false

theorem zero_pdR : (Tryz.prog.info? 39).map (·.zero) = some (some (.agg (pdC pd0))) := by kernel_rfl
def pkP (i sq : Nat) (li : Int) : Pd := ⟨18, 0, z0, 0, 0, 0, z0, li, dg i, sq, 1, z0, z0, none, 0, 0⟩
def L0 : Nat → It := fun _ => ⟨0, none, 0, 0, fun _ => 0⟩
def pkZ (i sq : Nat) (li : Int) : Nat → Int := pdZ (pkP i sq li) 2 L0
theorem pk_ok (i sq : Nat) (li : Int) (hs : sq ≤ 4294967295) (hl : 0 ≤ li ∧ li ≤ 65535) : PdOk (pkP i sq li) := by
  have h0 : ∀ j, 0 ≤ z0 j ∧ z0 j ≤ 255 := fun j => ⟨Int.le_refl 0, by show (0 : Int) ≤ 255; decide⟩
  refine ⟨⟨⟨by show (0 : Int) ≤ 18; decide, by show (18 : Int) ≤ 255; decide⟩, ⟨Int.le_refl 0, by show (0 : Int) ≤ 255; decide⟩, h0, ⟨by show (-9223372036854775808 : Int) ≤ 0; decide, by show (0 : Int) ≤ 9223372036854775807; decide⟩, ⟨Int.le_refl 0, by show (0 : Int) ≤ 255; decide⟩, ⟨Int.le_refl 0, by show (0 : Int) ≤ 255; decide⟩, h0⟩, ⟨?_, ?_⟩, dg_bd i, hs, ⟨by show (0 : Int) ≤ 1; decide, by show (1 : Int) ≤ 255; decide⟩, h0, h0⟩
  · show (-9223372036854775808 : Int) ≤ li; omega
  · show li ≤ 9223372036854775807; omega
theorem pk_fit (i sq : Nat) (li : Int) (hl : 0 ≤ li ∧ li ≤ 65535) : fitP (pkP i sq li) 2 = true := by
  simp [fitP, fitsTo, flC, fAt, fitB, pkP]
  try omega
theorem pk_bd (i sq : Nat) (li : Int) (hs : sq ≤ 4294967295) (hl : 0 ≤ li ∧ li ≤ 65535) (w : World) : ∀ j, 0 ≤ pkZ i sq li j ∧ pkZ i sq li j ≤ 255 :=
  pdZ_bd (pkP i sq li) 2 L0 (by decide) (pk_ok i sq li hs hl) (fun j => by simp [J, pkP])
theorem pk_good (i sq : Nat) (li : Int) (hs : sq ≤ 4294967295) (hl : 0 ≤ li ∧ li ≤ 65535) (w : World) : GoodZ (pkZ i sq li) 27 0 :=
  good_pd (pkP i sq li) L0 (pk_ok i sq li hs hl) (by show cls 18 ≤ 4; decide) (pk_fit i sq li hl) (by show hdN 2 + 0 ≤ 1492; decide) (pk_bd i sq li hs hl w)
theorem pk_cls (i sq : Nat) (li : Int) : cls (pkZ i sq li 4) = 2 := by rw [show pkZ i sq li 4 = (pkP i sq li).kd from pd_head (pkP i sq li) 2 L0 (by decide) 4 (by decide)]; rfl
def pkH (sq : Nat) (li : Int) : Hd := hdZ 27 (pkZ 0 sq li)
theorem pk_id1 : (pkH 1 5).id = 0 := by kernel_rfl
theorem pk_id2 : (pkH 1 3).id = 0 := by kernel_rfl
theorem pk_id3 : (pkH 2 9).id = 0 := by kernel_rfl
theorem pk_id4 : (pkH 1 9).id = 0 := by kernel_rfl
theorem pk_r2 : relH (pkH 1 3) (pkH 1 5) = 0 := by kernel_rfl
theorem pk_r3 : relH (pkH 2 9) (pkH 1 5) = 1 := by kernel_rfl
theorem pk_r4 : relH (pkH 1 9) (pkH 2 9) = -1 := by kernel_rfl
theorem build_pk (o : Oper) (e : Operand → Value) (x1 x2 x3 : Operand) (ho : o.op = .build 39 #[(0, .const (.int .u8 18)), (8, x1), (9, x2), (7, x3), (10, .const (.int .u8 1))]) (hc : ∀ v, e (.const v) = v) (i sq : Nat) (li : Int) (h1 : e x1 = .agg (iC i)) (h2 : e x2 = .int .u32 (sq : Int)) (h3 : e x3 = .int .i64 li) (W : World) :
    (execOp e o).run Tryz.prog W = .ok (.value (.agg (pdC (pkP i sq li)))) W := by
  unfold execOp
  simp only [ho]
  simp only [List.map_toArray, List.map_cons, List.map_nil, hc, h1, h2, h3]
  kernel_rfl
theorem iC_one' (n : Nat) : (iC n).all (·.oneCell') = true := idC_one n
theorem pd_over' (p q : Pd) : putMany (pdC q) 0 (pdC p).toList = pdC p := by kernel_rfl
theorem build_id0 (o : Oper) (e : Operand → Value) (ho : o.op = .build 35 #[]) (W : World) : (execOp e o).run Tryz.prog W = .ok (.value (.agg (iC 0))) W := by
  unfold execOp
  simp only [ho]
  kernel_rfl
set_option maxHeartbeats 8000000 in
set_option maxRecDepth 100000 in
theorem packet_any (i sq : Nat) (li : Int) (hs : sq ≤ 4294967295) (hl : 0 ≤ li ∧ li ≤ 65535) (w : World) : Calls Tryz.prog 23 #[.agg (iC i), .int .u32 (sq : Int), .int .i64 li, .string ⟨#[]⟩] w (RwP w 27 (pkZ i sq li)) := by
  have HS := Lib.hid hs
  have HL := Lib.hid hl
  clear hs hl
  go_enter Tryz.func23, Tryz.ntmps23
  have HB := Lib.hid (Below.refl w.heap.size w)
  obtain ⟨N1, hN1⟩ : ∃ N, w.heap.size = N := ⟨_, rfl⟩
  have HN1 := Lib.hid hN1
  clear hN1
  go_wp2_with (refine wpList_box (op := ⟨some 4, _, _, _, _, _⟩) rfl 35 (.tmp 0) rfl (iC i) rfl N1 HN1.out ?_; intro w1 k1 b1 s1; refine Hid.out ?_)
  refine Lib.hid ?_
  have K4 := Lib.hid k1
  clear k1
  have le_HB_N1 : w.heap.size ≤ N1 := by rw [← HN1.out]; exact HB.out.size
  replace HB := Lib.hid (HB.out.trans (b1.mono HB.out.size))
  clear b1 HN1
  go_wp2_with (refine wpList_ld (op := ⟨some 10, _, _, _, _, _⟩) (by rfl) 35 (.tmp 4) rfl N1 0 rfl (iC i) _ K4.out.all Tryz.underlying35 rfl info_iC ?_; refine Hid.out ?_)
  refine Lib.hid ?_
  go_wp2_with (refine wpList_v (op := ⟨some 13, _, _, _, _, _⟩) rfl (.agg (pdC (pkP i sq li))) (build_pk _ _ _ _ _ rfl (fun _ => rfl) i sq li rfl rfl rfl _) ?_; refine Hid.out ?_)
  refine Lib.hid ?_
  obtain ⟨N2, hN2⟩ : ∃ N, w1.heap.size = N := ⟨_, rfl⟩
  have HN2 := Lib.hid hN2
  clear hN2
  go_wp2_with (refine wpList_new (op := ⟨some 9, _, _, _, _, _⟩) rfl 39 rfl (pdC pd0) zero_pdR N2 HN2.out ?_; intro w2 k1 b1 s1; refine Hid.out ?_)
  refine Lib.hid ?_
  have K9 := Lib.hid k1
  clear k1
  have lt_N1_N2 : N1 < N2 := by rw [← HN2.out]; exact K4.out.lt
  have le_HB_N2 : w.heap.size ≤ N2 := by rw [← HN2.out]; exact HB.out.size
  replace K4 := Lib.hid (K4.out.below b1 K4.out.lt)
  replace HB := Lib.hid (HB.out.trans (b1.mono HB.out.size))
  clear b1 HN2
  go_wp2_with (refine wpList_st rfl 39 (.tmp 9) (.tmp 13) rfl N2 0 rfl (.agg (pdC (pkP i sq li))) (pdC (pkP i sq li)) rfl rfl info_pdR (pdC_one _) K9.out (Nat.le_of_ble_eq_true rfl) (C' := pdC (pkP i sq li)) (pd_over' _ _) ?_; intro w20 q1; refine Hid.out ?_)
  refine Lib.hid ?_
  replace K4 := Lib.hid (K4.out.far q1 (by omega))
  replace HB := Lib.hid (HB.out.trans (q1.2.1 _ (by omega)))
  replace K9 : Hid (Blk 39 w20 N2 (pdC (pkP i sq li))) := Lib.hid q1.1
  clear q1
  go_wp2_with (refine wpList_ld (op := ⟨some 21, _, _, _, _, _⟩) (by rfl) 39 (.tmp 9) rfl N2 0 rfl (pdC (pkP i sq li)) _ K9.out.all Tryz.underlying39 rfl info_pdR ?_; refine Hid.out ?_)
  refine Lib.hid ?_
  go_wp2_with fail
  refine (refWrite_any (pkP i sq li) 2 rfl (by decide) (pk_ok i sq li HS.out HL.out) (pk_fit i sq li HL.out) L0 (fun k hk => absurd hk (Nat.not_lt_zero _)) (by show hdN 2 + 0 ≤ 1492; decide) w20 ⟨.inl rfl, Nat.le_refl _, by show (0 : Nat) ≤ 9223372036854775807; decide⟩).mono ?_
  rintro e w30 ⟨g, c, rfl, hg, hO, b1⟩
  have HG := Lib.hid (Nat.le_trans HB.out.size hg)
  have HO := Lib.hid hO
  have HB2 := Lib.hid (HB.out.trans (b1.mono HB.out.size))
  clear hg hO b1
  go_wp2_with fail
  go_ret
  exact ⟨g, c, rfl, HG.out, HO.out, HB2.out⟩
theorem put_good (g n c : Nat) (z : Nat → Int) (m B s b k : Nat) (H : Nat → Option Hd) (r : Bool) (w : World) (hst : StAt w B s b H k r) (hk : k ≤ 512) (hq : cls (z 4) = 2) (hn : 27 ≤ n ∧ n ≤ 1492) (hO : Own8 w g n c z) (hg : GoodZ z n m) :
    Calls Tryz.prog 14 #[.pointer (some ⟨s, 0, none⟩), .slice (some ⟨g, 0, none⟩) n c] w (PutP w B s b H k r (hdZ n z)) :=
  put_yes (some ⟨g, 0, none⟩) n c z m B s b k H r w hst hk hq hn (Own8.rd hO) hO.caps.1 hO.caps.2 (by have h := read_good (some ⟨g, 0, none⟩) n c z w (Own8.rd hO) hO.caps.1 hO.caps.2 hn.2 m hg; rw [hq] at h; exact h)
set_option maxHeartbeats 40000000 in
set_option maxRecDepth 100000 in
theorem awake_any (w : World) : Calls Tryz.prog 5 #[] w fun e w' => e = .returned (.bool true) ∧ Below w.heap.size w w' := by
  go_enter Tryz.func5, Tryz.ntmps5
  go_wp2_with fail
  refine (new_any w).mono ?_
  rintro e w1 ⟨s, b, rfl, hst, b1⟩
  have HST := Lib.hid hst
  have HB := Lib.hid b1
  clear hst b1
  go_wp2_with (refine wpList_v (op := ⟨some 14, _, _, _, _, _⟩) rfl (.agg (iC 0)) (build_id0 _ _ rfl _) ?_; refine Hid.out ?_)
  refine Lib.hid ?_
  obtain ⟨N2, hN2⟩ : ∃ N, w1.heap.size = N := ⟨_, rfl⟩
  have HN2 := Lib.hid hN2
  clear hN2
  go_wp2_with (refine wpList_new (op := ⟨some 2, _, _, _, _, _⟩) rfl 35 rfl (iC 0) zero_id N2 HN2.out ?_; intro w2 k1 b1 s1; refine Hid.out ?_)
  refine Lib.hid ?_
  have LE9 : Hid (s < N2 ∧ b < N2) := Lib.hid (by rw [← HN2.out]; exact ⟨HST.out.lt, HST.out.ltb⟩)
  have K2 := Lib.hid k1
  have hNK2 := Lib.hid (Nat.le_of_eq HN2.out)
  have hbx := Lib.hid b1
  clear k1
  have le_HB_N2 : w.heap.size ≤ N2 := by rw [← HN2.out]; exact HB.out.size
  replace HB := Lib.hid (HB.out.trans (b1.mono HB.out.size))
  clear b1 HN2
  go_wp2_with (refine wpList_st rfl 35 (.tmp 2) (.tmp 14) rfl N2 0 rfl (.agg (iC 0)) (iC 0) rfl rfl info_iC (iC_one' _) K2.out (Nat.le_of_ble_eq_true rfl) (C' := iC 0) (by kernel_rfl) ?_; intro w10 q1; refine Hid.out ?_)
  refine Lib.hid ?_
  have hby := Lib.hid (hbx.out.trans (q1.2.1 _ hNK2.out))
  replace HB := Lib.hid (HB.out.trans (q1.2.1 _ (by omega)))
  replace K2 : Hid (Blk 35 w10 N2 (iC 0)) := Lib.hid q1.1
  clear q1
  replace HST : Hid (StAt w10 w.heap.size s b noH 0 false) := Lib.hid (HST.out.below hby.out)
  clear hby hbx hNK2
  have le9 : Hid (s < N2 ∧ b < N2) := Lib.hid LE9.out
  go_wp2_with (refine wpList_ld (op := ⟨some 17, _, _, _, _, _⟩) (by rfl) 35 (.tmp 2) rfl N2 0 rfl (iC 0) _ K2.out.all Tryz.underlying35 rfl info_iC ?_; refine Hid.out ?_)
  refine Lib.hid ?_
  go_wp2_with fail
  refine (packet_any 0 1 5 (by decide) (by decide) w10).mono ?_
  rintro e p1 ⟨g1, c1, rfl, hg1, hO, b1⟩
  replace K2 := Lib.hid (K2.out.below b1 K2.out.lt)
  replace HST := Lib.hid (HST.out.below b1)
  replace HB := Lib.hid (HB.out.trans (b1.mono HB.out.size))
  have HO := Lib.hid hO
  clear hO b1
  go_wp2_with fail
  refine (put_good g1 27 c1 (pkZ 0 1 5) 0 w.heap.size s b 0 (noH) false p1 HST.out (by decide) (pk_cls _ _ _) (by decide) HO.out (pk_good 0 1 5 (by decide) (by decide) w)).mono ?_
  rintro e q1 ⟨x1, E1, rfl, hf, hc⟩
  have hR : x1 = 1 ∧ E1 = 0 ∧ StAt q1 w.heap.size s b (putH noH (pkH 1 5)) 1 false := by
    rcases hc with ⟨_, _, h1, h2, h3⟩ | ⟨_, h, _⟩ | ⟨h, e, _⟩ | ⟨h, e, _⟩
    · exact ⟨h1, h2, h3⟩
    · omega
    · cases e
    · cases e
  obtain ⟨rfl, rfl, hst⟩ := hR
  have hFB := hf.below (B := w.heap.size) HST.out.hs HST.out.hb HB.out.size
  have K2n := Lib.hid ((hf.block N2 K2.out.lt (fun e => by have := le9.out; omega) (fun e => by have := le9.out; omega)).trans K2.out)
  clear K2
  have K2 : Hid (Blk 35 q1 N2 (iC 0)) := K2n
  clear K2n
  replace HB := Lib.hid (HB.out.trans hFB)
  clear HST
  have HST := Lib.hid hst
  clear hst hf hc hFB HO
  go_wp2_with (refine wpList_ld (op := ⟨some 24, _, _, _, _, _⟩) (by rfl) 35 (.tmp 2) rfl N2 0 rfl (iC 0) _ K2.out.all Tryz.underlying35 rfl info_iC ?_; refine Hid.out ?_)
  refine Lib.hid ?_
  go_wp2_with fail
  refine (packet_any 0 1 3 (by decide) (by decide) q1).mono ?_
  rintro e p2 ⟨g2, c2, rfl, hg2, hO, b1⟩
  replace K2 := Lib.hid (K2.out.below b1 K2.out.lt)
  replace HST := Lib.hid (HST.out.below b1)
  replace HB := Lib.hid (HB.out.trans (b1.mono HB.out.size))
  have HO := Lib.hid hO
  clear hO b1
  go_wp2_with fail
  refine (put_good g2 27 c2 (pkZ 0 1 3) 0 w.heap.size s b 1 (putH noH (pkH 1 5)) false p2 HST.out (by decide) (pk_cls _ _ _) (by decide) HO.out (pk_good 0 1 3 (by decide) (by decide) w)).mono ?_
  rintro e q2 ⟨x2, E2, rfl, hf, hc⟩
  have hR : x2 = 0 ∧ E2 = 0 ∧ StAt q2 w.heap.size s b (putH noH (pkH 1 5)) 1 false := by
    have e0 : (putH noH (pkH 1 5)) (pkH 1 3).id = some (pkH 1 5) := by rw [pk_id2]; unfold putH; rw [pk_id1, if_pos rfl]
    rcases hc with ⟨e, _⟩ | ⟨e, _⟩ | ⟨h, e, h1, h2, h3, h4⟩ | ⟨h, e, h1, _⟩
    · exact absurd (e0.symm.trans e) (by simp)
    · exact absurd (e0.symm.trans e) (by simp)
    · obtain rfl : pkH 1 5 = h := Option.some.inj (e0.symm.trans e)
      exact ⟨h2.trans pk_r2, h3, h4⟩
    · obtain rfl : pkH 1 5 = h := Option.some.inj (e0.symm.trans e)
      have e9 : relH (hdZ 27 (pkZ 0 1 3)) (pkH 1 5) = 0 := pk_r2
      omega
  obtain ⟨rfl, rfl, hst⟩ := hR
  have hFB := hf.below (B := w.heap.size) HST.out.hs HST.out.hb HB.out.size
  have K2n := Lib.hid ((hf.block N2 K2.out.lt (fun e => by have := le9.out; omega) (fun e => by have := le9.out; omega)).trans K2.out)
  clear K2
  have K2 : Hid (Blk 35 q2 N2 (iC 0)) := K2n
  clear K2n
  replace HB := Lib.hid (HB.out.trans hFB)
  clear HST
  have HST := Lib.hid hst
  clear hst hf hc hFB HO
  go_wp2_with (refine wpList_ld (op := ⟨some 31, _, _, _, _, _⟩) (by rfl) 35 (.tmp 2) rfl N2 0 rfl (iC 0) _ K2.out.all Tryz.underlying35 rfl info_iC ?_; refine Hid.out ?_)
  refine Lib.hid ?_
  go_wp2_with fail
  refine (packet_any 0 2 9 (by decide) (by decide) q2).mono ?_
  rintro e p3 ⟨g3, c3, rfl, hg3, hO, b1⟩
  replace K2 := Lib.hid (K2.out.below b1 K2.out.lt)
  replace HST := Lib.hid (HST.out.below b1)
  replace HB := Lib.hid (HB.out.trans (b1.mono HB.out.size))
  have HO := Lib.hid hO
  clear hO b1
  go_wp2_with fail
  refine (put_good g3 27 c3 (pkZ 0 2 9) 0 w.heap.size s b 1 (putH noH (pkH 1 5)) false p3 HST.out (by decide) (pk_cls _ _ _) (by decide) HO.out (pk_good 0 2 9 (by decide) (by decide) w)).mono ?_
  rintro e q3 ⟨x3, E3, rfl, hf, hc⟩
  have hR : x3 = 1 ∧ E3 = 0 ∧ StAt q3 w.heap.size s b (putH (putH noH (pkH 1 5)) (pkH 2 9)) 1 false := by
    have e0 : (putH noH (pkH 1 5)) (pkH 2 9).id = some (pkH 1 5) := by rw [pk_id3]; unfold putH; rw [pk_id1, if_pos rfl]
    rcases hc with ⟨e, _⟩ | ⟨e, _⟩ | ⟨h, e, h1, _⟩ | ⟨h, e, h1, h2, h3, h4⟩
    · exact absurd (e0.symm.trans e) (by simp)
    · exact absurd (e0.symm.trans e) (by simp)
    · obtain rfl : pkH 1 5 = h := Option.some.inj (e0.symm.trans e)
      have e9 : relH (hdZ 27 (pkZ 0 2 9)) (pkH 1 5) = 1 := pk_r3
      omega
    · exact ⟨h2, h3, h4⟩
  obtain ⟨rfl, rfl, hst⟩ := hR
  have hFB := hf.below (B := w.heap.size) HST.out.hs HST.out.hb HB.out.size
  have K2n := Lib.hid ((hf.block N2 K2.out.lt (fun e => by have := le9.out; omega) (fun e => by have := le9.out; omega)).trans K2.out)
  clear K2
  have K2 : Hid (Blk 35 q3 N2 (iC 0)) := K2n
  clear K2n
  replace HB := Lib.hid (HB.out.trans hFB)
  clear HST
  have HST := Lib.hid hst
  clear hst hf hc hFB HO
  go_wp2_with (refine wpList_ld (op := ⟨some 38, _, _, _, _, _⟩) (by rfl) 35 (.tmp 2) rfl N2 0 rfl (iC 0) _ K2.out.all Tryz.underlying35 rfl info_iC ?_; refine Hid.out ?_)
  refine Lib.hid ?_
  go_wp2_with fail
  refine (packet_any 0 1 9 (by decide) (by decide) q3).mono ?_
  rintro e p4 ⟨g4, c4, rfl, hg4, hO, b1⟩
  replace K2 := Lib.hid (K2.out.below b1 K2.out.lt)
  replace HST := Lib.hid (HST.out.below b1)
  replace HB := Lib.hid (HB.out.trans (b1.mono HB.out.size))
  have HO := Lib.hid hO
  clear hO b1
  go_wp2_with fail
  refine (put_good g4 27 c4 (pkZ 0 1 9) 0 w.heap.size s b 1 (putH (putH noH (pkH 1 5)) (pkH 2 9)) false p4 HST.out (by decide) (pk_cls _ _ _) (by decide) HO.out (pk_good 0 1 9 (by decide) (by decide) w)).mono ?_
  rintro e q4 ⟨x4, E4, rfl, hf, hc⟩
  have hR : x4 = -1 ∧ E4 = 0 ∧ StAt q4 w.heap.size s b (putH (putH noH (pkH 1 5)) (pkH 2 9)) 1 false := by
    have e0 : (putH (putH noH (pkH 1 5)) (pkH 2 9)) (pkH 1 9).id = some (pkH 2 9) := by rw [pk_id4]; unfold putH; rw [pk_id3, if_pos rfl]
    rcases hc with ⟨e, _⟩ | ⟨e, _⟩ | ⟨h, e, h1, h2, h3, h4⟩ | ⟨h, e, h1, _⟩
    · exact absurd (e0.symm.trans e) (by simp)
    · exact absurd (e0.symm.trans e) (by simp)
    · obtain rfl : pkH 2 9 = h := Option.some.inj (e0.symm.trans e)
      exact ⟨h2.trans pk_r4, h3, h4⟩
    · obtain rfl : pkH 2 9 = h := Option.some.inj (e0.symm.trans e)
      have e9 : relH (hdZ 27 (pkZ 0 1 9)) (pkH 2 9) = -1 := pk_r4
      omega
  obtain ⟨rfl, rfl, hst⟩ := hR
  have hFB := hf.below (B := w.heap.size) HST.out.hs HST.out.hb HB.out.size
  have K2n := Lib.hid ((hf.block N2 K2.out.lt (fun e => by have := le9.out; omega) (fun e => by have := le9.out; omega)).trans K2.out)
  clear K2
  have K2 : Hid (Blk 35 q4 N2 (iC 0)) := K2n
  clear K2n
  replace HB := Lib.hid (HB.out.trans hFB)
  clear HST
  have HST := Lib.hid hst
  clear hst hf hc hFB HO
  go_wp2_with fail
  refine (stLen_any HST.out).mono ?_
  rintro e w90 ⟨rfl, rfl⟩
  go_wp2_with fail
  go_ret
  exact ⟨rfl, HB.out⟩
end Go.Proofs.YtkiaijmhoikdiaaGreat

/- Whatever is offered, the greatest is held: plain facts. Each theorem states its conditions. -/
namespace Go.Proofs.YtkiaijmhoikdiaaGreat
open Go.RowKit Go.MapKept
set_option linter.unusedVariables false

theorem relH_self (a : Hd) : relH a a = 0 := by
  have := tot_relH.anti a a
  omega
def Mx (S : Hd → Prop) (H : Nat → Option Hd) : Prop := (∀ x, S x → ∃ h, H x.id = some h ∧ relH x h ≤ 0) ∧ ∀ i h, H i = some h → S h ∧ h.id = i
theorem Mx.zero : Mx (fun _ => False) noH := ⟨fun x h => h.elim, fun i h e => by cases e⟩
theorem Mx.congr {S T : Hd → Prop} {H : Nat → Option Hd} (h : Mx S H) (e : ∀ x, S x ↔ T x) : Mx T H := ⟨fun x hx => h.1 x ((e x).2 hx), fun i g hg => ⟨(e g).1 (h.2 i g hg).1, (h.2 i g hg).2⟩⟩
theorem Mx.new {S : Hd → Prop} {H : Nat → Option Hd} {t : Hd} (h : Mx S H) (ht : H t.id = none ∨ ∃ g, H t.id = some g ∧ 0 < relH t g) : Mx (fun x => S x ∨ x = t) (putH H t) := by
  refine ⟨fun x hx => ?_, fun i g hg => ?_⟩
  · by_cases e : x.id = t.id
    · refine ⟨t, by unfold putH; rw [if_pos e], ?_⟩
      rcases hx with hx | rfl
      · obtain ⟨g, hg, hr⟩ := h.1 x hx
        rw [e] at hg
        rcases ht with ht | ⟨g', hg', hr'⟩
        · rw [ht] at hg; cases hg
        · have hgg : g' = g := Option.some.inj (hg'.symm.trans hg)
          rw [hgg] at hr'
          have a1 := tot_relH.anti x g
          have a2 := tot_relH.tr t g x (by omega) (by omega)
          have a3 := tot_relH.anti t x
          omega
      · rw [relH_self]; exact Int.le_refl 0
    · rcases hx with hx | rfl
      · obtain ⟨g, hg, hr⟩ := h.1 x hx
        exact ⟨g, by unfold putH; rw [if_neg e]; exact hg, hr⟩
      · exact absurd rfl e
  · unfold putH at hg
    by_cases e : i = t.id
    · rw [if_pos e] at hg
      cases hg
      exact ⟨.inr rfl, e.symm⟩
    · rw [if_neg e] at hg
      exact ⟨.inl (h.2 i g hg).1, (h.2 i g hg).2⟩
theorem Mx.old {S : Hd → Prop} {H : Nat → Option Hd} {t g : Hd} (h : Mx S H) (ht : H t.id = some g) (hr : relH t g ≤ 0) : Mx (fun x => S x ∨ x = t) H := by
  refine ⟨fun x hx => ?_, fun i g' hg => ⟨.inl (h.2 i g' hg).1, (h.2 i g' hg).2⟩⟩
  rcases hx with hx | rfl
  · exact h.1 x hx
  · exact ⟨g, ht, hr⟩
end Go.Proofs.YtkiaijmhoikdiaaGreat

/- A list of types and values that came in as an argument can be read. No condition. -/
namespace Go.Proofs.YtkiaijmhoikdiaaGreat
open Go.RowKit Go.ChangeShapes Go.WideShapes
set_option linter.unusedVariables false

theorem mem_weightsAll {H : Type} {P : Program} {e : TypeId} {ds : List (DataW H)} {d : DataW H} (hd : d ∈ ds) : ∀ n ∈ d.weights P e, n ∈ DataW.weightsAll P e ds := by
  induction ds with
  | nil => cases hd
  | cons x r ih =>
    intro n hn
    simp only [DataW.weightsAll, List.mem_append]
    rcases List.mem_cons.1 hd with rfl | h
    · exact .inl hn
    · exact .inr (ih h n hn)

theorem open_tlvs {H : Type} {enc : TypeId × Value → H} {w : World} {base : Nat} {held : Bool} {a : Option Addr} {len cap : Nat} {d : DataW H} {ps : List MemPlace}
    (h : DataW.Trod enc Tryz.prog w base (fun _ => true) held 37 (.slice a len cap) d ps) (hsz : ∀ n ∈ d.weights Tryz.prog 37, n ≤ 140737488351232) :
    ∃ L, RdT w a len L ∧ (a = none → len = 0 ∧ cap = 0) ∧ len ≤ cap ∧ cap * 32 ≤ 140737488351232 := by
  obtain ⟨fuel, hf⟩ := h
  have he := Tryz.underlying114
  rcases Deep.open_slice_pairs Tryz.underlying37 he (by kernel_rfl) rfl rfl (by kernel_rfl) (by kernel_rfl) hf with ⟨hcs, _⟩ | ⟨x, l, c, mm, n, V0, V1, D0, D1, P0, P1, hcs, _, hl, hm, hmm, hx, hcell⟩
  · simp [Value.cells] at hcs
    obtain ⟨rfl, rfl, rfl⟩ := hcs
    exact ⟨fun _ => ⟨0, none, 0, 0, fun _ => 0⟩, .inl rfl, fun _ => ⟨rfl, rfl⟩, Nat.le_refl _, by omega⟩
  · simp [Value.cells] at hcs
    obtain ⟨rfl, rfl, rfl⟩ := hcs
    rw [if_pos rfl] at hmm
    subst hmm
    simp only [Prod.mk.injEq] at hx
    obtain ⟨rfl, rfl⟩ := hx
    have hb : Tryz.prog.bytesOf 114 = 32 := by kernel_rfl
    have hw0 := hsz ((len + (mm - len)) * 32) (by
      simp only [DataW.weights, Tryz.underlying37, List.length_map, List.length_range, hb]
      exact List.mem_cons_self ..)
    have each : ∀ i, i < len → ∃ t : Int × Option Addr × Nat × Nat × (Nat → Int), w.cell? (x.add (i * 2)) = some (.int .u8 t.1) ∧ w.cell? (x.add (i * 2 + 1)) = some (.slice t.2.1 t.2.2.1 t.2.2.2.1) ∧ ItOk w ⟨t.1, t.2.1, t.2.2.1, t.2.2.2.1, t.2.2.2.2⟩ := by
      intro i hi
      obtain ⟨e0, e1, t0, t1⟩ := hcell i (by omega)
      obtain ⟨ty, ety, _, wty⟩ := DataW.trod_int Tryz.underlying5 t0
      have hty : V0 i = .int .u8 ty := by simpa using ety
      have hwt : ∀ k ∈ (D1 i).weights Tryz.prog 40, k ≤ 140737488351232 := by
        intro k hk
        refine hsz k ?_
        simp only [DataW.weights, Tryz.underlying37]
        refine List.mem_cons_of_mem _ (List.mem_append_left _ (mem_weightsAll (d := .agg [D0 i, D1 i]) (List.mem_map.2 ⟨i, by simpa using hi, rfl⟩) k ?_))
        simp only [DataW.weights, he]
        exact DataW.weights_mem_each (j := 1) (t := 40) (d := D1 i) rfl rfl k hk
      rcases open_ints Tryz.underlying40 Tryz.underlying5 (by kernel_rfl) t1 with ⟨hcs, _⟩ | ⟨y, l, c, zs, hcs, _, hl', hm', hz', hx', hc', hwz⟩
      · have hv : V1 i = .slice none 0 0 := by simpa using hcs
        rw [hty] at e0
        rw [hv] at e1
        exact ⟨(ty, none, 0, 0, fun _ => 0), e0, e1, wf_u8 wty, ⟨.inl rfl, fun _ => by simp⟩, fun _ => ⟨rfl, rfl⟩, by simp⟩
      · have hv : V1 i = .slice (some y) l c := by simpa using hcs
        rw [hty] at e0
        rw [hv] at e1
        rw [if_pos rfl] at hz'
        obtain ⟨hr, hn⟩ := isRow_rd (w := w) (A := some y) (len := l) (cap := c) (zs := zs) (.inr ⟨y, rfl, hl', hm', hz', hc', hwz⟩)
        have hD : D1 i = .slice (lits .u8 (zs.take l)) (lits .u8 (zs.drop l)) := by
          have := congrArg Prod.fst hx'
          simpa using this
        have hbb : Tryz.prog.bytesOf 5 = 1 := by kernel_rfl
        have hw1 := hwt ((l + (c - l)) * 1) (by
          rw [hD]
          simp only [DataW.weights, Tryz.underlying40, lits, List.length_map, List.length_take, List.length_drop, hz', hbb, Nat.min_eq_left hl']
          exact List.mem_cons_self ..)
        exact ⟨(ty, some y, l, c, fun j => zs.getD j 0), e0, e1, wf_u8 wty, hr, fun e => (by cases e), by show l ≤ _; omega⟩
    obtain ⟨f, hf'⟩ := Deep.choose_lt each
    refine ⟨fun i => ⟨(f i).1, (f i).2.1, (f i).2.2.1, (f i).2.2.2.1, (f i).2.2.2.2⟩, ?_, fun e => (by cases e), hl, by omega⟩
    rcases Nat.eq_zero_or_pos len with h0 | h0
    · exact .inl h0
    · obtain ⟨b, off, spot⟩ := x
      have hc0 := (hf' 0 h0).1
      have hs : spot = none := by simpa [Addr.add] using World.cell?_spot hc0
      subst hs
      have hadd : ∀ j, (⟨b, off, none⟩ : Addr).add j = ⟨b, off + j, none⟩ := fun j => by unfold Addr.add; split <;> simp_all
      refine .inr ⟨b, off, rfl, ?_, fun j hj => ?_⟩
      · have := cell_lt hc0
        simpa [hadd] using this
      · obtain ⟨h1, h2, h3⟩ := hf' j hj
        rw [hadd] at h1 h2
        exact ⟨h1, by rw [← Nat.add_assoc] at h2; exact h2, h3⟩
end Go.Proofs.YtkiaijmhoikdiaaGreat

/- A packet that came in as an argument can be read. No condition. -/
namespace Go.Proofs.YtkiaijmhoikdiaaGreat
open Go.RowKit Go.ChangeShapes Go.WideShapes
set_option linter.unusedVariables false

section
variable {H : Type} {enc : TypeId × Value → H} {w : World} {base : Nat} {spare : Nat → Bool} {held : Bool} {m : Nat} {cs : List Value}
theorem cell_i64 {k : Nat} {o : Option (DataW H × List MemPlace)} (h : DataW.trod enc Tryz.prog w base spare held m 3 ((cs.drop k).take 1) = o) (ho : o.isSome = true) : ∃ a : Int, cs[k]? = some (.int .i64 a) ∧ -9223372036854775808 ≤ a ∧ a ≤ 9223372036854775807 := by
  obtain ⟨y, rfl⟩ := Option.isSome_iff_exists.1 ho
  obtain ⟨a, ea, _, wa⟩ := DataW.trod_int Tryz.underlying3 h
  refine ⟨a, ?_, wf_i64 wa⟩
  have := congrArg (·[0]?) ea
  simpa [List.getElem?_take, List.getElem?_drop] using this
theorem cell_u32 {k : Nat} {o : Option (DataW H × List MemPlace)} (h : DataW.trod enc Tryz.prog w base spare held m 36 ((cs.drop k).take 1) = o) (ho : o.isSome = true) : ∃ a : Int, cs[k]? = some (.int .u32 a) ∧ 0 ≤ a ∧ a ≤ 4294967295 := by
  obtain ⟨y, rfl⟩ := Option.isSome_iff_exists.1 ho
  obtain ⟨a, ea, _, wa⟩ := DataW.trod_int Tryz.underlying36 h
  refine ⟨a, ?_, wf_u32 wa⟩
  have := congrArg (·[0]?) ea
  simpa [List.getElem?_take, List.getElem?_drop] using this
theorem node_run {e : Nat} {o : Option (DataW H × List MemPlace)} (h : DataW.trod enc Tryz.prog w base spare held m 33 ((cs.drop e).take 7) = o) (ho : o.isSome = true) : ∃ z : Nat → Int, (∀ i, i < 7 → cs[e + i]? = some (.int .u8 (z i))) ∧ ∀ i, 0 ≤ z i ∧ z i ≤ 255 := by
  obtain ⟨y, rfl⟩ := Option.isSome_iff_exists.1 ho
  have hc6 : Tryz.prog.cellsOf 31 = 6 := by kernel_rfl
  have hc1 : Tryz.prog.cellsOf 5 = 1 := by kernel_rfl
  obtain ⟨ys, m2, _, _, _, hny, hey⟩ := DataW.trod_struct Tryz.underlying33 h
  have hny : ys.length = 2 := hny
  have f0 : DataW.trod enc Tryz.prog w base spare held m2 31 ((((cs.drop e).take 7).drop 0).take (Tryz.prog.cellsOf 31)) = ys[0]? := hey 0 _ rfl
  have f1 : DataW.trod enc Tryz.prog w base spare held m2 5 ((((cs.drop e).take 7).drop 6).take (Tryz.prog.cellsOf 5)) = ys[1]? := hey 1 _ rfl
  rw [hc6] at f0
  rw [hc1] at f1
  obtain ⟨z, hz, hzb⟩ := bytes_run Tryz.underlying31 f0 (by rw [List.getElem?_eq_getElem (by omega)]; rfl)
  obtain ⟨p, hp, hpb⟩ := cell_u8 f1 (by rw [List.getElem?_eq_getElem (by omega)]; rfl)
  refine ⟨fun i => if i = 6 then p else z i, fun i hi => ?_, fun i => ?_⟩
  · by_cases e6 : i = 6
    · subst e6
      rw [List.getElem?_take, if_pos (by omega), List.getElem?_drop] at hp
      simpa using hp
    · have := hz i (by omega)
      rw [Nat.zero_add, List.getElem?_take, if_pos (by omega), List.getElem?_drop] at this
      simpa [e6] using this
  · show 0 ≤ (if i = 6 then p else z i) ∧ (if i = 6 then p else z i) ≤ 255
    split
    · exact hpb
    · exact hzb i
theorem id_run {e : Nat} {o : Option (DataW H × List MemPlace)} (h : DataW.trod enc Tryz.prog w base spare held m 35 ((cs.drop e).take 8) = o) (ho : o.isSome = true) : ∃ z : Nat → Int, (∀ i, i < 8 → cs[e + i]? = some (.int .u8 (z i))) ∧ ∀ i, 0 ≤ z i ∧ z i ≤ 255 := by
  obtain ⟨y, rfl⟩ := Option.isSome_iff_exists.1 ho
  have hc7 : Tryz.prog.cellsOf 33 = 7 := by kernel_rfl
  have hc1 : Tryz.prog.cellsOf 5 = 1 := by kernel_rfl
  obtain ⟨ys, m2, _, _, _, hny, hey⟩ := DataW.trod_struct Tryz.underlying35 h
  have hny : ys.length = 2 := hny
  have f0 : DataW.trod enc Tryz.prog w base spare held m2 33 ((((cs.drop e).take 8).drop 0).take (Tryz.prog.cellsOf 33)) = ys[0]? := hey 0 _ rfl
  have f1 : DataW.trod enc Tryz.prog w base spare held m2 5 ((((cs.drop e).take 8).drop 7).take (Tryz.prog.cellsOf 5)) = ys[1]? := hey 1 _ rfl
  rw [hc7] at f0
  rw [hc1] at f1
  obtain ⟨z, hz, hzb⟩ := node_run f0 (by rw [List.getElem?_eq_getElem (by omega)]; rfl)
  obtain ⟨p, hp, hpb⟩ := cell_u8 f1 (by rw [List.getElem?_eq_getElem (by omega)]; rfl)
  refine ⟨fun i => if i = 7 then p else z i, fun i hi => ?_, fun i => ?_⟩
  · by_cases e6 : i = 7
    · subst e6
      rw [List.getElem?_take, if_pos (by omega), List.getElem?_drop] at hp
      simpa using hp
    · have := hz i (by omega)
      rw [Nat.zero_add, List.getElem?_take, if_pos (by omega), List.getElem?_drop] at this
      simpa [e6] using this
  · show 0 ≤ (if i = 7 then p else z i) ∧ (if i = 7 then p else z i) ≤ 255
    split
    · exact hpb
    · exact hzb i
end
def InP (w : World) (p : Pd) (L : Nat → It) : Prop := PdOk p ∧ RdT w p.A p.m L ∧ (p.A = none → p.m = 0 ∧ p.c = 0) ∧ p.m ≤ p.c ∧ p.c * 32 ≤ 140737488351232
end Go.Proofs.YtkiaijmhoikdiaaGreat

/- What the document's Write makes of any packet of which the first four TLVs are kept, and small operations of the laws. Each theorem states its conditions. -/
namespace Go.Proofs.YtkiaijmhoikdiaaGreat
open Go.RowKit
set_option linter.unusedVariables false
set_option linter.unusedSimpArgs false

def t4 (x : Pd) : Pd := ⟨x.kd, x.ci, x.so, x.ho, x.nu, x.pr, x.la, x.li, x.id, x.sq, x.bi, x.st, x.en, x.A, min x.m 4, x.c⟩
theorem t4_ok {x : Pd} (h : PdOk x) : PdOk (t4 x) := h
theorem info_tlsW : (Tryz.prog.info? 37).map (·.size) = some 1 := by kernel_rfl
theorem rdT_min {w : World} {A : Option Addr} {m k : Nat} {L : Nat → It} (h : RdT w A m L) (hk : k ≤ m) : RdT w A k L := by
  rcases Nat.eq_zero_or_pos k with rfl | hp
  · exact .inl rfl
  · obtain ⟨b, off, rfl, hr⟩ := h.row (by omega)
    exact .inr ⟨b, off, rfl, hr.1, fun j hj => hr.2 j (by omega)⟩
theorem min4_run (o : Oper) (e : Operand → Value) (x y : Operand) (ho : o.op = .call { callee := .builtin .min, args := #[x, y], argTypes := #[3, 3] }) (m : Nat) (h0 : e x = .int .i64 (m : Int)) (hc : e y = .int .i64 4) (W : World) : (execOp e o).run Tryz.prog W = .ok (.value (.int .i64 ((min m 4 : Nat) : Int))) W := by
  unfold execOp
  simp only [ho]
  by_cases h : m < 4
  · rw [Nat.min_eq_left (by omega)]
    have h2 : ¬ (4 : Int) < (m : Int) := by omega
    simp [resolve, invoke, builtin, h0, hc, go_sem, h2]
    try omega
  · rw [Nat.min_eq_right (by omega)]
    have h1 : ¬ (m : Int) < 4 := by omega
    simp [resolve, invoke, builtin, h0, hc, go_sem, h1]
    try omega
    try (intro _; omega)
theorem slice4_k (o : Oper) (e : Operand → Value) (x y : Operand) (ho : o.op = .slice 37 x none (some y) none) (A : Option Addr) (m c k : Nat) (hA : m = 0 ∨ ∃ b off, A = some ⟨b, off, none⟩) (h0 : e x = .slice A m c) (h1 : e y = .int .i64 (k : Int)) (hk : k ≤ m) (hm : m ≤ c) (W : World) :
    (execOp e o).run Tryz.prog W = .ok (.value (.slice A k c)) W := by
  unfold execOp
  simp only [ho, h0, h1, Option.map_none, Option.map_some]
  have e3 : ¬ ((c : Int) < (k : Int)) := by omega
  have e4 : ¬ (c < k) := by omega
  rcases A with _ | A
  · have hk0 : k = 0 := by
      rcases hA with h | ⟨b, off, h⟩
      · omega
      · cases h
    subst hk0
    simp [go_sem]
  · simp [go_sem, e3, e4]
structure WOk (p : Pd) (n : Nat) (z : Nat → Int) : Prop where
  hn : 1 ≤ n ∧ n ≤ 1492
  h4 : cls (z 4) = cls p.kd
  n27 : cls (z 4) = 2 → 27 ≤ n
  good : GoodZ z n p.m
  bd : ∀ j, 0 ≤ z j ∧ z j ≤ 255
theorem wr_ok {p : Pd} {L : Nat → It} {m0 : Nat} {w : World} (hp : PdOk p) (hm : JEnds L p.m m0) (hR : RdT w p.A p.m L) (hX : wrX p L m0 = 0) : WOk p (wrN p L m0) (wrZ p L m0) := by
  have hX2 := hX
  unfold wrX at hX2
  split at hX2
  · omega
  split at hX2
  · omega
  rename_i h1 h2
  have hc5 : cls p.kd ≤ 4 := by have := cls_le p.kd; have : cls p.kd ≠ 5 := fun e => h1 (.inl e); omega
  have hf : fitP p (cls p.kd) = true := by
    cases hf : fitP p (cls p.kd)
    · exact absurd (.inr hf) h1
    · rfl
  obtain ⟨e1, e2, e3⟩ := wr_0 p L m0 h1 h2
  have hm0 : m0 = p.m := by have := hm.1; omega
  have hJ := J_rd hR (fun k hk => hm.2.1 k (by omega))
  have hzb := pdZ_bd p (cls p.kd) L (by omega) hp hJ
  have hg := good_pd p L hp hc5 hf (by omega) hzb
  have hb := hdN_bd (cls p.kd) hc5
  have h4 : pdZ p (cls p.kd) L 4 = p.kd := by rw [pd_head p _ L hc5 4 (by decide)]; rfl
  rw [e2, e3]
  refine ⟨⟨by omega, by omega⟩, by rw [h4], fun h => ?_, hg, hzb⟩
  rw [h4] at h
  have : hdN (cls p.kd) = 27 := by rw [h]; rfl
  omega
theorem self_hd (h : Hd) : SelfEq 10000 58 (.agg (enC (hdE h))) := by
  refine self_struct 9999 _ _ [(35, 0), (36, 8), (3, 9), (56, 10)] (by kernel_rfl) (by kernel_rfl) (by kernel_rfl) (fun p hp => ?_)
  simp only [List.mem_cons, List.not_mem_nil, or_false] at hp
  rcases hp with rfl | rfl | rfl | rfl
  · exact ⟨.agg (idC (hdE h).s), fun w => by kernel_rfl, self_id 9995 (hdE h).s (fun j => dg_bd _ _)⟩
  · exact ⟨.int .u32 ((hdE h).sq : Int), fun w => by kernel_rfl, self_int 9998 _ .u32 _ Tryz.underlying36⟩
  · exact ⟨.int .i64 (hdE h).li, fun w => by kernel_rfl, self_int 9998 _ .i64 _ Tryz.underlying3⟩
  · exact ⟨.int .u16 ((hdE h).su : Int), fun w => by kernel_rfl, self_int 9998 _ .u16 _ Tryz.underlying56⟩
end Go.Proofs.YtkiaijmhoikdiaaGreat

/- Lists of packets as bytes; two stores side by side. Each theorem states its conditions. -/
namespace Go.Proofs.YtkiaijmhoikdiaaGreat
open Go.RowKit Go.MapKept
set_option linter.unusedVariables false
set_option linter.unusedSimpArgs false

structure Bw where
  g : Nat
  n : Nat
  c : Nat
  z : Nat → Int
instance : Inhabited Bw := ⟨⟨0, 0, 0, fun _ => 0⟩⟩
def BwOk (w : World) (x : Bw) : Prop := Own8 w x.g x.n x.c x.z ∧ cls (x.z 4) = 2 ∧ (27 ≤ x.n ∧ x.n ≤ 1492) ∧ ∃ m, GoodZ x.z x.n m
theorem BwOk.below {w w' : World} {x : Bw} (h : BwOk w x) (hb : Below w.heap.size w w') : BwOk w' x := ⟨Own8.below h.1 hb (Own8.lt h.1), h.2⟩
theorem BwOk.lt {w : World} {x : Bw} (h : BwOk w x) : x.g < w.heap.size := Own8.lt h.1
theorem BwOk.bd {w : World} {x : Bw} (h : BwOk w x) : ∀ j, 0 ≤ x.z j ∧ x.z j ≤ 255 := h.1.2
theorem BwOk.grown {w w' : World} {x : Bw} {B m : Nat} {v : Value} {C : Nat → Array Value} (h : BwOk w x) (ho : OwnR w B 40 1 v m C) (hg : w.grownBy w' v.ownBlock) : BwOk w' x := by
  refine ⟨Own8.block h.1 (hg.block _ (Own8.lt h.1) (fun e => ?_)), h.2⟩
  obtain ⟨⟨cur, h1, _⟩, _⟩ := h.1
  rcases ho.2 with ⟨rfl, _⟩ | ⟨g, cap, cur2, rfl, _, h3, _⟩
  · cases e
  · have e2 : g = x.g := by simpa [Value.ownBlock] using e.symm
    rw [e2, h1] at h3
    injection h3 with h3
    injection h3 with _ h3 _
    exact absurd h3 (by decide)
def Sh (w : World) (s b : Nat) : Prop := (∃ r, Blk 76 w s (stC b r)) ∧ ∃ es c, w.heap[b]? = some (.map es c)
theorem StAt.sh {w : World} {B s b k : Nat} {H : Nat → Option Hd} {r : Bool} (h : StAt w B s b H k r) : Sh w s b := ⟨⟨r, h.blk⟩, by obtain ⟨M, ⟨es, c, h1, _⟩, _⟩ := h.map; exact ⟨es, c, h1⟩⟩
theorem StAt.mono {w : World} {B B' s b k : Nat} {H : Nat → Option Hd} {r : Bool} (h : StAt w B s b H k r) (hb : B' ≤ B) : StAt w B' s b H k r := by
  obtain ⟨h1, h2, h3, M, h4, h5, h6, h7⟩ := h
  exact ⟨by omega, by omega, h3, M, h4, h5, fun i g x e1 e2 => by obtain ⟨⟨a0, ro, oa, c, a1, a2, a3, a4⟩, a5⟩ := h6 i g x e1 e2; exact ⟨⟨by omega, ro, oa, c, a1, a2, by omega, a4⟩, a5⟩, h7⟩
theorem StAt.other {w w' : World} {B s b k s2 b2 : Nat} {H : Nat → Option Hd} {r : Bool} (h : StAt w B s b H k r) (hs : Sh w s2 b2) (hf : Fr w w' s2 b2) (h1 : s ≠ s2) (h2 : b ≠ b2) : StAt w' B s b H k r := by
  obtain ⟨⟨r2, hs1⟩, es2, c2, hs2⟩ := hs
  have lt_s := h.lt
  have lt_b := h.ltb
  obtain ⟨g1, g2, g3, M, ⟨es, c, g4, g4'⟩, g5, g6, g7⟩ := h
  have n1 : s ≠ b2 := by
    rintro rfl
    have e1 : w.heap[s]? = _ := g3
    rw [hs2] at e1
    cases e1
  have n2 : b ≠ s2 := by
    rintro rfl
    have e1 : w.heap[b]? = _ := hs1
    rw [g4] at e1
    cases e1
  exact ⟨g1, g2, (hf.block s lt_s h1 n1).trans g3, M, ⟨es, c, (hf.block b lt_b n2 h2).trans g4, g4'⟩, g5, fun i g x e1 e2 => by
    obtain ⟨a, c⟩ := g6 i g x e1 e2
    exact ⟨a.fr hs1 ⟨es2, c2, hs2⟩ hf, c⟩, g7⟩
theorem OwnR.fr {w w' : World} {B m s2 b2 : Nat} {v : Value} {C : Nat → Array Value} (h : OwnR w B 40 1 v m C) (hs : Sh w s2 b2) (hf : Fr w w' s2 b2) : OwnR w' B 40 1 v m C := by
  obtain ⟨⟨r2, hs1⟩, es2, c2, hs2⟩ := hs
  rcases h with ⟨h1, h2 | ⟨g, cap, cur, e1, e2, e3, rest⟩⟩
  · exact ⟨h1, .inl h2⟩
  · refine ⟨h1, .inr ⟨g, cap, cur, e1, e2, (hf.block g (Array.getElem?_eq_some_iff.1 e3).1 ?_ ?_).trans e3, rest⟩⟩
    · rintro rfl
      have e4 : w.heap[g]? = _ := hs1
      rw [e3] at e4
      injection e4 with e4
      injection e4 with _ e4 _
      exact absurd e4 (by decide)
    · rintro rfl
      rw [hs2] at e3
      cases e3
end Go.Proofs.YtkiaijmhoikdiaaGreat

/- The document's order of IDs, and its ends. Each theorem states its conditions. -/
namespace Go.Proofs.YtkiaijmhoikdiaaGreat
open Go.RowKit
set_option linter.unusedVariables false
set_option linter.unusedSimpArgs false

def mxI : Nat := 18446744073709551615
theorem mx_ok : IdOk mxI := by unfold IdOk mxI; decide
theorem le_mx {n : Nat} (h : IdOk n) : n ≤ mxI := by unfold IdOk at h; unfold mxI; omega
theorem buildF_id0 (o : Oper) (e : Operand → Value) (ho : o.op = .build 35 #[]) (W : World) : (execOp e o).run Tryz.prog W = .ok (.value (.agg (iC 0))) W := by
  unfold execOp
  simp only [ho]
  kernel_rfl
theorem iC_mx : iC mxI = #[.int .u8 255, .int .u8 255, .int .u8 255, .int .u8 255, .int .u8 255, .int .u8 255, .int .u8 255, .int .u8 255] := by kernel_rfl
def UpTo (x y k : Nat) : Prop := match k with
  | 0 => True
  | k + 1 => x / pw k = y / pw k
theorem upTo_step {x y k : Nat} (hx : IdOk x) (hy : IdOk y) (hk : k < 8) (h : UpTo x y k) (hd : dg x k = dg y k) : UpTo x y (k + 1) := by
  unfold IdOk at hx hy
  rcases (by omega : k = 0 ∨ k = 1 ∨ k = 2 ∨ k = 3 ∨ k = 4 ∨ k = 5 ∨ k = 6 ∨ k = 7) with rfl | rfl | rfl | rfl | rfl | rfl | rfl | rfl <;> simp only [UpTo, dg, pw] at h hd ⊢ <;> omega
theorem upTo_all {x y : Nat} (h : UpTo x y 8) : x = y := by
  simp only [UpTo, pw] at h
  omega
theorem upTo_lt {x y k : Nat} (hx : IdOk x) (hy : IdOk y) (hk : k < 8) (h : UpTo x y k) (hd : dg x k ≠ dg y k) : decide (dg x k < dg y k) = decide (x < y) := by
  unfold IdOk at hx hy
  have e : (dg x k < dg y k) ↔ x < y := by
    rcases (by omega : k = 0 ∨ k = 1 ∨ k = 2 ∨ k = 3 ∨ k = 4 ∨ k = 5 ∨ k = 6 ∨ k = 7) with rfl | rfl | rfl | rfl | rfl | rfl | rfl | rfl <;> simp only [UpTo, dg, pw] at h hd ⊢ <;> omega
  simp only [e]
set_option maxHeartbeats 8000000 in
set_option maxRecDepth 100000 in
theorem first_any (w : World) : Calls Tryz.prog 41 #[] w fun e w' => e = .returned (.agg (iC 0)) ∧ Below w.heap.size w w' := by
  go_enter Tryz.func41, Tryz.ntmps41
  have HB := Lib.hid (Below.refl w.heap.size w)
  obtain ⟨N1, hN1⟩ : ∃ N, w.heap.size = N := ⟨_, rfl⟩
  have HN1 := Lib.hid hN1
  clear hN1
  go_wp2_with (refine wpList_new (op := ⟨some 0, _, _, _, _, _⟩) rfl 35 rfl (iC 0) zero_idS N1 HN1.out ?_; intro w1 k1 b1 s1; refine Hid.out ?_)
  refine Lib.hid ?_
  have K0 := Lib.hid k1
  clear k1
  have le_HB_N1 : w.heap.size ≤ N1 := by rw [← HN1.out]; exact HB.out.size
  replace HB := Lib.hid (HB.out.trans (b1.mono HB.out.size))
  clear b1 HN1
  go_wp2_with (refine wpList_v (op := ⟨some 1, _, _, _, _, _⟩) rfl (.agg (iC 0)) (buildF_id0 _ _ rfl _) ?_; refine Hid.out ?_)
  refine Lib.hid ?_
  go_wp2_with (refine wpList_st rfl 35 (.tmp 0) (.tmp 1) rfl N1 0 rfl (.agg (iC 0)) (iC 0) rfl rfl info_iC (idC_one _) K0.out (Nat.le_of_ble_eq_true rfl) (C' := iC 0) (id_over _ _) ?_; intro w2 q1; refine Hid.out ?_)
  refine Lib.hid ?_
  replace HB := Lib.hid (HB.out.trans (q1.2.1 _ (by omega)))
  replace K0 : Hid (Blk 35 w2 N1 (iC 0)) := Lib.hid q1.1
  clear q1
  go_wp2_with fail
  exact bodyPost_ret (results_1 rfl _ w2 N1 (iC 0) Tryz.underlying35 rfl info_iC rfl K0.out) rfl ⟨rfl, HB.out⟩
set_option maxHeartbeats 8000000 in
set_option maxRecDepth 100000 in
theorem last_any (w : World) : Calls Tryz.prog 20 #[] w fun e w' => e = .returned (.agg (iC mxI)) ∧ Below w.heap.size w w' := by
  go_enter Tryz.func20, Tryz.ntmps20
  have HB := Lib.hid (Below.refl w.heap.size w)
  obtain ⟨N1, hN1⟩ : ∃ N, w.heap.size = N := ⟨_, rfl⟩
  have HN1 := Lib.hid hN1
  clear hN1
  go_wp2_with (refine wpList_new (op := ⟨some 0, _, _, _, _, _⟩) rfl 35 rfl (iC 0) zero_idS N1 HN1.out ?_; intro w1 k1 b1 s1; refine Hid.out ?_)
  refine Lib.hid ?_
  have K0 := Lib.hid k1
  clear k1
  have le_HB_N1 : w.heap.size ≤ N1 := by rw [← HN1.out]; exact HB.out.size
  replace HB := Lib.hid (HB.out.trans (b1.mono HB.out.size))
  clear b1 HN1
  go_wp2_with (refine wpList_st rfl 35 (.tmp 0) (.tmp 3) rfl N1 0 rfl (.agg (iC mxI)) (iC mxI) (by rw [iC_mx]; rfl) rfl info_iC (idC_one _) K0.out (Nat.le_of_ble_eq_true rfl) (C' := iC mxI) (id_over _ _) ?_; intro w2 q1; refine Hid.out ?_)
  refine Lib.hid ?_
  replace HB := Lib.hid (HB.out.trans (q1.2.1 _ (by omega)))
  replace K0 : Hid (Blk 35 w2 N1 (iC mxI)) := Lib.hid q1.1
  clear q1
  go_wp2_with fail
  exact bodyPost_ret (results_1 rfl _ w2 N1 (iC mxI) Tryz.underlying35 rfl info_iC rfl K0.out) rfl ⟨rfl, HB.out⟩
set_option maxHeartbeats 8000000 in
set_option maxRecDepth 100000 in
theorem less_any (x y : Nat) (w : World) (hx : IdOk x) (hy : IdOk y) : Calls Tryz.prog 67 #[.agg (iC x), .agg (iC y)] w fun e w' => e = .returned (.bool (decide (x < y))) ∧ Below w.heap.size w w' := by
  have HX := Lib.hid hx
  have HY := Lib.hid hy
  clear hx hy
  go_enter Tryz.func67, Tryz.ntmps67
  have HB := Lib.hid (Below.refl w.heap.size w)
  obtain ⟨N1, hN1⟩ : ∃ N, w.heap.size = N := ⟨_, rfl⟩
  have HN1 := Lib.hid hN1
  clear hN1
  go_wp2_with (refine wpList_box (op := ⟨some 2, _, _, _, _, _⟩) rfl 35 (.tmp 0) rfl (iC x) rfl N1 HN1.out ?_; intro w1 k1 b1 s1; refine Hid.out ?_)
  refine Lib.hid ?_
  have K2 := Lib.hid k1
  clear k1
  have le_HB_N1 : w.heap.size ≤ N1 := by rw [← HN1.out]; exact HB.out.size
  replace HB := Lib.hid (HB.out.trans (b1.mono HB.out.size))
  clear b1 HN1
  obtain ⟨N2, hN2⟩ : ∃ N, w1.heap.size = N := ⟨_, rfl⟩
  have HN2 := Lib.hid hN2
  clear hN2
  go_wp2_with (refine wpList_box (op := ⟨some 3, _, _, _, _, _⟩) rfl 35 (.tmp 1) rfl (iC y) rfl N2 HN2.out ?_; intro w2 k1 b1 s1; refine Hid.out ?_)
  refine Lib.hid ?_
  have K3 := Lib.hid k1
  clear k1
  have lt_N1_N2 : N1 < N2 := by rw [← HN2.out]; exact K2.out.lt
  have le_HB_N2 : w.heap.size ≤ N2 := by rw [← HN2.out]; exact HB.out.size
  replace K2 := Lib.hid (K2.out.below b1 K2.out.lt)
  replace HB := Lib.hid (HB.out.trans (b1.mono HB.out.size))
  clear b1 HN2
  go_wp2_with fail
  refine wp_region_held_drew (S := fun w' => Blk 35 w' N1 (iC x) ∧ Blk 35 w' N2 (iC y) ∧ Below w.heap.size w w') (by kernel_rfl) ⟨K2.out, K3.out, HB.out.drew⟩ (fun hS => ?_)
  generalize hW3 : w2.drew = W3 at hS  ⊢
  clear hW3
  clear K2
  clear K3
  clear HB
  have K2 := Lib.hid hS.1
  have K3 := Lib.hid hS.2.1
  have HB := Lib.hid hS.2.2
  refine tL (i := 0) (some 8) 35 (.tmp 2) N1 0 (iC x) _ rfl rfl rfl rfl (fun w' hS => hS.1.all) Tryz.underlying35 rfl info_iC hS ?_
  simp only [Act.put, pA, pB, pC]
  refine tL (i := 2) (some 10) 35 (.tmp 3) N2 0 (iC y) _ rfl rfl rfl rfl (fun w' hS => hS.2.1.all) Tryz.underlying35 rfl info_iC hS ?_
  simp only [Act.put, pA, pB, pC]
  refine takeCE (i := 1) (some 9) 59 #[.agg (iC x)] (R := fun v w' => OwnB w' W3.heap.size v 8 (dg x) ∧ Below W3.heap.size W3 w') rfl rfl (by kernel_rfl) (by rfl) (by go_simp) (refID_any (dg x) W3 (dg_bd x)) (fun v w' h => by obtain ⟨ho, b1⟩ := h; exact ⟨hS.1.below b1 hS.1.lt, hS.2.1.below b1 hS.2.1.lt, hS.2.2.trans (b1.mono hS.2.2.size)⟩) (fun v W4 h hS2 => ?_)
  obtain ⟨ho, b1⟩ := h
  clear hS2
  simp only [Act.put, pA, pB, pC]
  obtain ⟨Ax, cx, rfl, _⟩ := ho.shape
  have HP : Hid (OwnB W4 W3.heap.size (.slice Ax 8 cx) 8 (dg x)) := Lib.hid ho
  clear ho
  replace K2 := Lib.hid (K2.out.below b1 K2.out.lt)
  replace K3 := Lib.hid (K3.out.below b1 K3.out.lt)
  replace HB := Lib.hid (HB.out.trans (b1.mono HB.out.size))
  clear b1 hS
  have hS := (And.intro K2.out (And.intro K3.out HB.out))
  refine takeCE (i := 3) (some 11) 59 #[.agg (iC y)] (R := fun v w' => OwnB w' W4.heap.size v 8 (dg y) ∧ Below W4.heap.size W4 w') rfl rfl (by kernel_rfl) (by rfl) (by go_simp) (refID_any (dg y) W4 (dg_bd y)) (fun v w' h => by obtain ⟨ho, b1⟩ := h; exact ⟨hS.1.below b1 hS.1.lt, hS.2.1.below b1 hS.2.1.lt, hS.2.2.trans (b1.mono hS.2.2.size)⟩) (fun v W5 h hS2 => ?_)
  obtain ⟨ho, b1⟩ := h
  clear hS2
  simp only [Act.put, pA, pB, pC]
  obtain ⟨Ay, cy, rfl, _⟩ := ho.shape
  have HQz : Hid (OwnB W5 W4.heap.size (.slice Ay 8 cy) 8 (dg y)) := Lib.hid ho
  clear ho
  replace HP := Lib.hid (HP.out.below b1)
  replace K2 := Lib.hid (K2.out.below b1 K2.out.lt)
  replace K3 := Lib.hid (K3.out.below b1 K3.out.lt)
  replace HB := Lib.hid (HB.out.trans (b1.mono HB.out.size))
  clear b1 hS
  have hS := (And.intro K2.out (And.intro K3.out HB.out))
  have HQ := HQz
  clear HQz
  refine tY (i := 4) (some 5) (v := .slice Ax 8 cx) rfl rfl (fun w' hS => by clear hS; go_simp) hS ?_
  simp only [Act.put, pA, pB, pC]
  refine tY (i := 5) (some 6) (v := .slice Ay 8 cy) rfl rfl (fun w' hS => by clear hS; go_simp) hS ?_
  simp only [Act.put, pA, pB, pC]
  clear hS
  refine wpAnyH_done (by kernel_rfl) ?_ _
  obtain ⟨_, _, e1, _, _, _, r1⟩ := HP.out.shape
  cases e1
  obtain ⟨b1, o1, rfl, h1⟩ := r1.row (by decide)
  obtain ⟨_, _, e2, _, _, _, r2⟩ := HQ.out.shape
  cases e2
  obtain ⟨b2, o2, rfl, h2⟩ := r2.row (by decide)
  have hc1 := h1.2.1
  have hc2 := h2.2.1
  clear r1 r2 h1 h2 HP HQ K2 K3
  go_wp2_with fail
  go_loopw [14] (fun t wr => ∃ k m : Nat, k ≤ 8 ∧ t = .int .i64 k ∧ wr = W5.drewN m ∧ Hid (UpTo x y k)) (fun t _ => 8 - (intOf t).toNat)
  case atStart => exact ⟨0, 0, by omega, rfl, rfl, Lib.hid trivial⟩
  case round =>
    obtain ⟨k, m, hk, rfl, rfl, HU⟩ := hrel
    by_cases hlt : k < 8
    · have HLT := Lib.hid hlt
      have g1 := hc1 k hlt
      have g2 := hc2 k hlt
      have HB2 : Hid (∀ r, Below w.heap.size w (W5.drewN r)) := Lib.hid (fun r => ⟨HB.out.os, HB.out.tape, HB.out.output, HB.out.size, HB.out.block⟩)
      obtain ⟨a, ha⟩ : ∃ a, dg x k = a := ⟨_, rfl⟩
      obtain ⟨b, hb⟩ : ∃ a, dg y k = a := ⟨_, rfl⟩
      rw [ha] at g1
      rw [hb] at g2
      have HA := Lib.hid ha
      have HBb := Lib.hid hb
      clear ha hb hc1 hc2
      have hlt2 : (k : Int) < 8 := by omega
      by_cases hab : a = b
      · have HAB : Hid (dg x k = dg y k) := Lib.hid (by rw [HA.out, HBb.out, hab])
        subst hab
        go_wp2
        go_region
        go_wp2
        go_roundw
        case rel => exact ⟨k + 1, m + 1, by omega, by go_num, rfl, Lib.hid (upTo_step HX.out HY.out HLT.out HU.out HAB.out)⟩
        case measure => simp [intOf]; omega
      · have HAB : Hid (decide (a < b) = decide (x < y)) := Lib.hid (by rw [← HA.out, ← HBb.out]; exact upTo_lt HX.out HY.out HLT.out HU.out (by rw [HA.out, HBb.out]; exact hab))
        have hne : (a != b) = true := by simpa using hab
        go_wp2
        go_region
        go_wp2
        go_region
        go_wp2
        go_ret
        exact ⟨by first | (rw [← HAB.out]; done) | (rw [← HAB.out]; rfl) | simp [← HAB.out], HB2.out _⟩
    · obtain rfl : k = 8 := by omega
      have hxy := upTo_all HU.out
      have HE : Hid (decide (x < y) = false) := Lib.hid (by simp [hxy])
      clear hxy
      go_wp2
      go_ret
      exact ⟨by rw [HE.out]; rfl, ⟨HB.out.os, HB.out.tape, HB.out.output, HB.out.size, HB.out.block⟩⟩
end Go.Proofs.YtkiaijmhoikdiaaGreat
