/- Texts of this claim put together; each theorem states its conditions. -/
import Derived.Test.YtccoicjmmeoggaaDoorGMacOpensCard4
import Derived.Test.YtccoicjmmeoggaaDoorGMacOpensCard5
import Derived.Test.YtccoicjmmeoggaaDoorGMacOpensCard3
import Derived.Test.YtccoicjmmeoggaaDoorRows
import Derived.Test.YtccoicjmmeoggaaDoorGMacOpensCard2
import Derived.Deep.Slices
import Derived.OpenShut
import Derived.ProofKit
import Derived.SizedLaws
import Derived.Deep.SlicePairs
import Derived.LoopN
import Derived.Deep.DeepCutAuto
/- The document's Write writes a packet. Each theorem states its conditions. -/
namespace Go.Proofs.YtccoicjmmeoggaaDoor
open Go.RowKit
set_option linter.unusedVariables false

set_option maxHeartbeats 40000000 in
set_option maxRecDepth 100000 in
theorem refWrite_K (p : Pd) (K : Int) (hK : K = 18 ∨ K = 20) (hk : p.kd = K) (hp : PdOk p) (hf : fitP p 2 = true) (L : Nat → It) (hm : ∀ k, k < p.m → ¬ bad L k) (hn : 27 + sz L p.m ≤ 1492) (w : World) (hin : PdIn w p L) :
    Calls Tryd.prog 69 #[.agg (pdC p)] w (RwP w (27 + sz L p.m) (pdZ p 2 L)) := by
  have HZ : Hid (∀ j, 0 ≤ pdZ p 2 L j ∧ pdZ p 2 L j ≤ 255) := Lib.hid (pdZ_bd p 2 L (by decide) hp (J_rd hin.1 hm))
  have a0 := pdC_0 p
  have a46 := pdC_46 p
  rw [hk] at a0
  have HIN := Lib.hid hin
  have HM := Lib.hid hm
  have HP := Lib.hid hp
  have HWZ : Hid (cat (accZ p (27 + sz L p.m) 2 6) 27 (J L p.m) = wZ p 2 L) := Lib.hid rfl
  have HJB := Lib.hid (J_rd hin.1 hm)
  have HKD := Lib.hid hk
  obtain ⟨T, hT⟩ : ∃ T, sz L p.m = T := ⟨_, rfl⟩
  have HPZ : Hid (pdZ p 2 L = sgZ (wZ p 2 L) (27 + sz L p.m)) := Lib.hid rfl
  rw [hT] at hn HWZ HPZ ⊢
  have HT := Lib.hid hT
  clear hT
  have HN := Lib.hid hn
  have HHD : Hid (∀ w, Calls Tryd.prog 68 #[.int .u8 K] w fun e w' => e = .returned (.int .i64 27) ∧ w = w') := Lib.hid (fun w => refHead_any K 2 (by rcases hK with rfl | rfl <;> rfl) (by decide) w)
  have hTb : T ≤ 1492 := by omega
  have HLS := Lib.hid (lsp_yes K (by rcases hK with rfl | rfl <;> decide))
  have f15 : (K == 15) = false := by rcases hK with rfl | rfl <;> rfl
  have f16 : (K == 16) = false := by rcases hK with rfl | rfl <;> rfl
  have f17 : (K == 17) = false := by rcases hK with rfl | rfl <;> rfl
  have hKb : 0 ≤ K ∧ K ≤ 255 := by omega
  have HKB := Lib.hid hKb
  have HKK := Lib.hid hK
  clear hK
  have hli : 0 ≤ p.li ∧ p.li ≤ 65535 := fit_li p hf
  obtain ⟨NH, hNH⟩ : ∃ N : Nat, p.li = (N : Int) := ⟨p.li.toNat, by omega⟩
  have HNH := Lib.hid hNH
  have hNHb : NH ≤ 65535 := by omega
  clear hin hm hp hf hn hk hli hNH
  have HX0 := Lib.hid (heap_alloc_new w (.cells (pdC p) 42))
  have HB0 := Lib.hid ((bself w).alloc (Nat.le_refl _) (.cells (pdC p) 42))
  go_enter Tryd.func69, Tryd.ntmps69
  go_wp2_with fail
  obtain ⟨W0, hW0⟩ : ∃ W0, w.alloc (.cells (pdC p) 42) = W0 := ⟨_, rfl⟩
  rw [hW0] at HX0 HB0 ⊢
  clear hW0
  obtain ⟨N1, hN1⟩ : ∃ N, w.heap.size = N := ⟨_, rfl⟩
  have HX : Hid (W0.heap[N1]? = some (.cells (pdC p) 42 (0, 0))) := Lib.hid (by rw [← hN1]; exact HX0.out)
  clear HX0
  skip
  refine (refjoin_any p.A p.m p.c L _ (HIN.out.1.below HB0.out) HIN.out.2.1 HIN.out.2.2 HM.out).mono ?_
  rintro e w1 ⟨v, rfl, ho, hb⟩
  rw [HT.out] at ho
  obtain ⟨TA, Tc, lt, rfl, hTc, hTm, hTn, hkt, hrt⟩ := own_has ⟨ho, HJB.out⟩
  have HTR := Lib.hid hrt
  have HTN := Lib.hid hTn
  have HK1 : Hid (Kp w1 ((N1, .cells (pdC p) 42 (0, 0)) :: lt)) := Lib.hid (hkt.cons ((hb.block _ (Array.getElem?_eq_some_iff.1 HX.out).1).trans HX.out))
  have HB1 := Lib.hid (HB0.out.trans (hb.mono HB0.out.size))
  clear ho hTn hkt hrt hb HX HB0
  rw [hN1]
  clear hN1
  have c0 : w1.cell? ⟨N1, 0, none⟩ = some (.int .u8 K) := (cell_of_row w1 _ 0 _ _ _ HK1.out.head).trans a0
  go_wp2_with fail
  refine (HHD.out _).mono ?_
  rintro e wx ⟨rfl, rfl⟩
  go_wp2_with fail
  rw [show (27 : Int) + (T : Int) = ((27 + T : Nat) : Int) from by omega]
  refine (two_any (27 + T) _ (by have := HN.out; omega)).mono ?_
  rintro e w2 ⟨gs, rfl, hgs, hos, hb⟩
  obtain ⟨os, hks, hrs⟩ := own8_has hos
  have HRs := Lib.hid hrs
  have HK2 : Hid (Kp w2 ((gs, os) :: (N1, .cells (pdC p) 42 (0, 0)) :: lt)) := Lib.hid ((HK1.out.below hb).cons hks)
  have HB2 := Lib.hid (HB1.out.trans (hb.mono HB1.out.size))
  obtain ⟨cs, hcs⟩ : ∃ c, c = 2 := ⟨_, rfl⟩
  clear HK1 HB1 hks hrs hos hgs hb c0
  go_wp2_with fail
  refine wp_region_held_drew (S := fun w' => Kp w' ((gs, os) :: (N1, .cells (pdC p) 42 (0, 0)) :: lt) ∧ Below w.heap.size w w') (by kernel_rfl) ⟨HK2.out.below (bself w2).drew, HB2.out.drew⟩ (fun hS => ?_)
  generalize hW3 : w2.drew = W3 at hS ⊢
  clear hW3 HK2 HB2
  refine takeY (i := 0) (some 19) (v := .pointer (some ⟨N1, 0, none⟩)) rfl rfl (by kernel_rfl) (by kernel_rfl) (by kernel_rfl) (fun _ _ _ h => h) (by rfl) (fun w' hS => by go_simp) hS ?_
  simp only [Act.put, List.setIfInBounds_toArray, List.set_cons_zero, List.set_cons_succ]
  refine takeY (i := 1) (some 20) (v := .int .u8 K) rfl rfl (by kernel_rfl) (by kernel_rfl) (by kernel_rfl) (fun _ _ _ h => h) (by rfl) (fun w' hS => by (have c9 : w'.cell? ⟨N1, 0, none⟩ = some (.int .u8 K) := (cell_of_row w' _ 0 _ _ _ hS.1.tail.head).trans a0; clear hS; go_simp)) hS ?_
  simp only [Act.put, List.setIfInBounds_toArray, List.set_cons_zero, List.set_cons_succ]
  refine takeY (i := 4) (some 23) (v := .pointer (some ⟨N1, 0, none⟩)) rfl rfl (by kernel_rfl) (by kernel_rfl) (by kernel_rfl) (fun _ _ _ h => h) (by rfl) (fun w' hS => by go_simp) hS ?_
  simp only [Act.put, List.setIfInBounds_toArray, List.set_cons_zero, List.set_cons_succ]
  refine takeY (i := 5) (some 24) (v := .int .u8 K) rfl rfl (by kernel_rfl) (by kernel_rfl) (by kernel_rfl) (fun _ _ _ h => h) (by rfl) (fun w' hS => by (have c9 : w'.cell? ⟨N1, 0, none⟩ = some (.int .u8 K) := (cell_of_row w' _ 0 _ _ _ hS.1.tail.head).trans a0; clear hS; go_simp)) hS ?_
  simp only [Act.put, List.setIfInBounds_toArray, List.set_cons_zero, List.set_cons_succ]
  refine takeC (i := 2) (some 21) 68 #[.int .u8 K] (.int .i64 27) (R := fun w' => W3 = w') rfl rfl (by kernel_rfl) (by rfl) (by go_simp) (HHD.out _) (fun w' hb => hb ▸ hS) (fun wx hb1 hS2 => ?_)
  subst hb1
  clear hS2
  simp only [Act.put, List.setIfInBounds_toArray, List.set_cons_zero, List.set_cons_succ]
  refine takeY (i := 3) (some 22) (v := .int .u8 27) rfl rfl (by kernel_rfl) (by kernel_rfl) (by kernel_rfl) (fun _ _ _ h => h) (by rfl) (fun w' hS => by (go_simp; rfl)) hS ?_
  simp only [Act.put, List.setIfInBounds_toArray, List.set_cons_zero, List.set_cons_succ]
  refine takeV (i := 6) (some 25) (v := .slice (some ⟨W3.heap.size, 0, none⟩) 8 8) (w' := W3.alloc (.cells #[.int .u8 131, .int .u8 27, .int .u8 1, .int .u8 0, .int .u8 K, .int .u8 1, .int .u8 0, .int .u8 0] 5)) rfl rfl (by kernel_rfl) (by rfl) (by go_simp) ⟨hS.1.below ((bself _).alloc (Nat.le_refl _) _), hS.2.alloc hS.2.size _⟩ ?_
  simp only [Act.put, List.setIfInBounds_toArray, List.set_cons_zero, List.set_cons_succ]
  have HO : Hid (Out w (W3.alloc (.cells #[.int .u8 131, .int .u8 27, .int .u8 1, .int .u8 0, .int .u8 K, .int .u8 1, .int .u8 0, .int .u8 0] 5)) (.slice (some ⟨W3.heap.size, 0, none⟩) 8 8) 8 (accZ p (27 + T) 2 0) ((gs, os) :: (N1, .cells (pdC p) 42 (0, 0)) :: lt)) := Lib.hid (out_first hS.1 hS.2 ((bself _).alloc (Nat.le_refl _) _) (head_at W3 p K 2 27 T HKD.out rfl HKB.out (by decide)) (Nat.le_refl _))
  have hSn := And.intro HO.out.kp HO.out.2.1
  clear hS
  have hS := hSn
  clear hSn
  generalize hW4 : W3.alloc (.cells #[.int .u8 131, .int .u8 27, .int .u8 1, .int .u8 0, .int .u8 K, .int .u8 1, .int .u8 0, .int .u8 0] 5) = W4 at HO hS ⊢
  clear hW4
  obtain ⟨v4, hv4⟩ : ∃ v, v = Value.slice (some ⟨W3.heap.size, 0, none⟩) 8 8 := ⟨_, rfl⟩
  rw [← hv4] at HO ⊢
  clear hv4
  refine takeY (i := 7) (some 5) (v := v4) rfl rfl (by kernel_rfl) (by kernel_rfl) (by kernel_rfl) (fun _ _ _ h => h) (by rfl) (fun w' hS => by go_simp) hS ?_
  simp only [Act.put, List.setIfInBounds_toArray, List.set_cons_zero, List.set_cons_succ]
  clear hS
  refine wpAnyH_done (by kernel_rfl) ?_ _
  go_wp2_with (refine wpList_ldr (op := ⟨some 27, _, _, _, _, _⟩) (by rfl) 36 (.tmp 26) rfl N1 2 rfl (ndC p.so) _ (PdT.so (t := 42) (p := p) HO.out.kp.tail.head) Tryd.underlying36 rfl (hi_nd' _) ?_; refine Hid.out ?_)
  refine Lib.hid ?_
  go_wp2_with fail
  refine (refNode_any p.so _ HP.out.1.2.2.1).mono ?_
  rintro e W5 ⟨vy, rfl, hoy, hb⟩
  obtain ⟨gy, cy, rfl, hgy, hoy⟩ := own_ofB hoy (by omega)
  have hcy := hoy.caps
  have hcy1 : (6 : Int) ≤ (cy : Int) := by omega
  have hcy1 : 7 ≤ cy := hcy.1
  obtain ⟨oy, hky, hry⟩ := own8_has hoy
  have HRy := Lib.hid hry
  have HOn := Lib.hid (HO.out.new hb hgy hky)
  clear HO hb hgy hky hry hoy hcy
  have HO := HOn
  clear HOn
  have c0 : W5.cell? ⟨N1, 0, none⟩ = some (.int .u8 K) := (cell_of_row W5 _ 0 _ _ _ HO.out.kp.tail.tail.head).trans a0
  go_upto_block 0 with fail
  go_cut [5] (fun vo wc => Hid (Out w wc vo 27 (accZ p (27 + T) 2 6) ((gy, oy) :: (gs, os) :: (N1, .cells (pdC p) 42 (0, 0)) :: lt)))
  case first =>
    go_upto_region 13 with fail
    go_cut [77] (fun b wc => b = .bool (K == 18) ∧ W5 = wc)
    case first => go_wp2_with fail; go_meet; case rel => exact ⟨rfl, rfl⟩
    case rest =>
      obtain ⟨rfl, rfl⟩ := hcut
      go_upto_if 77 with fail
      go_cut [77] (fun b wc => b = .bool true ∧ W5 = wc)
      case first =>
        rcases HKK.out with hK | hK
        · subst hK; go_wp2_with fail; go_meet; case rel => exact ⟨rfl, rfl⟩
        · subst hK; go_wp2_with fail; go_meet; case rel => exact ⟨rfl, rfl⟩
      case rest =>
        obtain ⟨rfl, rfl⟩ := hcut
        go_wp2_with fail
        clear c0
        have HOd := Lib.hid (HO.out.below (bself W5).drew)
        clear HO
        refine wp_region_held_drew (S := fun w' => Kp w' ((gy, oy) :: (gs, os) :: (N1, .cells (pdC p) 42 (0, 0)) :: lt)) (by kernel_rfl) HOd.out.kp (fun hS => ?_)
        generalize hW1 : W5.drew = W1 at hS HOd ⊢
        clear hW1
        have HO := HOd
        clear HOd
        refine takeY (i := 0) (some 80) (v := v4) rfl rfl (by kernel_rfl) (by kernel_rfl) (by kernel_rfl) (fun _ _ _ h => h) (by rfl) (fun w' hS => by go_simp) hS ?_
        simp only [Act.put, List.setIfInBounds_toArray, List.set_cons_zero, List.set_cons_succ]
        refine takeY (i := 1) (some 81) (v := .slice (some ⟨gs, 0, none⟩) 2 2) rfl rfl (by kernel_rfl) (by kernel_rfl) (by kernel_rfl) (fun _ _ _ h => h) (by rfl) (fun w' hS => by go_simp) hS ?_
        simp only [Act.put, List.setIfInBounds_toArray, List.set_cons_zero, List.set_cons_succ]
        refine takeY (i := 3) (some 83) (v := .pointer (some ⟨N1, 19, none⟩)) rfl rfl (by kernel_rfl) (by kernel_rfl) (by kernel_rfl) (fun _ _ _ h => h) (by rfl) (fun w' hS => by go_simp) hS ?_
        simp only [Act.put, List.setIfInBounds_toArray, List.set_cons_zero, List.set_cons_succ]
        refine takeY (i := 4) (some 84) (v := .int .i64 (NH : Int)) rfl rfl (by kernel_rfl) (by kernel_rfl) (by kernel_rfl) (fun _ _ _ h => h) (by rfl) (fun w' hS => by (have c9 : w'.cell? ⟨N1, 19, none⟩ = some (.int .i64 (NH : Int)) := (PdT.cell (t := 42) (p := p) hS.tail.tail.head 19).trans (by rw [← HNH.out]; rfl); clear hS; go_simp)) hS ?_
        simp only [Act.put, List.setIfInBounds_toArray, List.set_cons_zero, List.set_cons_succ]
        refine takeY (i := 7) (some 87) (v := .pointer (some ⟨N1, 20, none⟩)) rfl rfl (by kernel_rfl) (by kernel_rfl) (by kernel_rfl) (fun _ _ _ h => h) (by rfl) (fun w' hS => by go_simp) hS ?_
        simp only [Act.put, List.setIfInBounds_toArray, List.set_cons_zero, List.set_cons_succ]
        refine takeL (i := 8) (some 88) 38 (.tmp 87) N1 20 (idC p.id) _ rfl rfl (by kernel_rfl) (by kernel_rfl) (by kernel_rfl) (fun _ _ _ h => h) (by rfl) rfl rfl (fun w' hS => PdT.id (t := 42) (p := p) hS.tail.tail.head) Tryd.underlying38 rfl (hi_id _) hS ?_
        simp only [Act.put, List.setIfInBounds_toArray, List.set_cons_zero, List.set_cons_succ]
        refine takeOut (i := 2) (some 82) (.tmp 80) (.tmp 81) rfl rfl (by kernel_rfl) (by rfl) rfl rfl HO.out (some ⟨gs, 0, none⟩) 2 2 (putZ (27 + T) 2) rfl ((HRs.out _ HO.out.kp.tail.head).rd) (fun e => by cases e) (by omega) ?_
        intro v3 W2 ho
        refine ⟨ho.kp, ?_⟩
        simp only [Act.put, List.setIfInBounds_toArray, List.set_cons_zero, List.set_cons_succ]
        have HOn : Hid (Out w W2 v3 10 (accZ p (27 + T) 2 1) ((gy, oy) :: (gs, os) :: (N1, .cells (pdC p) 42 (0, 0)) :: lt)) := Lib.hid ho
        clear HO ho
        have HO := HOn
        clear HOn
        clear hS
        have hS := HO.out.kp
        refine takeCE (i := 5) (some 85) 91 #[.int .i64 (NH : Int)] (R := fun v w' => ∃ g c, v = .slice (some ⟨g, 0, none⟩) 2 c ∧ W2.heap.size ≤ g ∧ Own8 w' g 2 c (putZ NH 2) ∧ Below W2.heap.size W2 w') rfl rfl (by kernel_rfl) (by rfl) (by clear hS HO; go_simp) ((two_any NH W2 hNHb).mono fun e w' h => by obtain ⟨g, h1, h2, h3, h4⟩ := h; exact ⟨_, h1, g, 2, rfl, h2, h3, h4⟩) (fun v w' h => by obtain ⟨_, _, _, _, _, h4⟩ := h; exact hS.below h4) ?_
        intro vx W4 h hS2
        obtain ⟨gt, ct, rfl, hgt, hot, hb⟩ := h
        simp only [Act.put, List.setIfInBounds_toArray, List.set_cons_zero, List.set_cons_succ]
        obtain ⟨ot, hkt, hrt⟩ := own8_has hot
        have HOn := Lib.hid (HO.out.new hb hgt hkt)
        have HRt := Lib.hid hrt
        clear HO hb hgt hkt hrt hot hS2
        have HO := HOn
        clear HOn
        clear hS
        have hS := HO.out.tail.kp
        refine takeOut (i := 6) (some 86) (.tmp 82) (.tmp 85) rfl rfl (by kernel_rfl) (by rfl) rfl rfl HO.out (some ⟨gt, 0, none⟩) 2 ct (fZ p 0 8) rfl ((by show Rd _ _ _ (putZ p.li.toNat 2); rw [HNH.out, Int.toNat_natCast]; exact (HRt.out _ HO.out.kp.head).rd)) (fun e => by cases e) (by omega) ?_
        intro v6 W5 ho
        refine ⟨ho.tail.kp, ?_⟩
        simp only [Act.put, List.setIfInBounds_toArray, List.set_cons_zero, List.set_cons_succ]
        have HOn : Hid (Out w W5 v6 12 (accZ p (27 + T) 2 2) ((gt, ot) :: (gy, oy) :: (gs, os) :: (N1, .cells (pdC p) 42 (0, 0)) :: lt)) := Lib.hid ho
        clear HO ho
        have HO := HOn
        clear HOn
        clear hS
        have hS := HO.out.tail.kp
        refine takeCE (i := 9) (some 89) 93 #[.agg (idC p.id)] (R := fun v w' => ∃ g c, v = .slice (some ⟨g, 0, none⟩) 8 c ∧ W5.heap.size ≤ g ∧ Own8 w' g 8 c (p.id) ∧ Below W5.heap.size W5 w') rfl rfl (by kernel_rfl) (by rfl) (by clear hS HO; go_simp) ((refID_any p.id W5 HP.out.2.2.1).mono fun e w' h => by obtain ⟨v, h1, h2, h3⟩ := h; obtain ⟨g, cap, hv, hg, hog⟩ := own_ofB h2 (by omega); exact ⟨v, h1, g, cap, hv, hg, hog, h3⟩) (fun v w' h => by obtain ⟨_, _, _, _, _, h4⟩ := h; exact hS.below h4) ?_
        intro vx W7 h hS2
        obtain ⟨gu, cu, rfl, hgu, hou, hb⟩ := h
        simp only [Act.put, List.setIfInBounds_toArray, List.set_cons_zero, List.set_cons_succ]
        obtain ⟨ou, hku, hru⟩ := own8_has hou
        have HOn := Lib.hid (HO.out.new hb hgu hku)
        have HRu := Lib.hid hru
        clear HO hb hgu hku hru hou hS2
        have HO := HOn
        clear HOn
        clear hS
        have hS := HO.out.tail.tail.kp
        refine takeOut (i := 10) (some 90) (.tmp 86) (.tmp 89) rfl rfl (by kernel_rfl) (by rfl) rfl rfl HO.out (some ⟨gu, 0, none⟩) 8 cu p.id rfl ((HRu.out _ HO.out.kp.head).rd) (fun e => by cases e) (by omega) ?_
        intro v9 W8 ho
        refine ⟨ho.tail.tail.kp, ?_⟩
        simp only [Act.put, List.setIfInBounds_toArray, List.set_cons_zero, List.set_cons_succ]
        have HOn : Hid (Out w W8 v9 20 (accZ p (27 + T) 2 3) ((gu, ou) :: (gt, ot) :: (gy, oy) :: (gs, os) :: (N1, .cells (pdC p) 42 (0, 0)) :: lt)) := Lib.hid ho
        clear HO ho
        have HO := HOn
        clear HOn
        clear hS
        have hS := HO.out.tail.tail.kp
        refine takeY (i := 11) (some 5) (v := v9) rfl rfl (by kernel_rfl) (by kernel_rfl) (by kernel_rfl) (fun _ _ _ h => h) (by rfl) (fun w' hS => by go_simp) hS ?_
        simp only [Act.put, List.setIfInBounds_toArray, List.set_cons_zero, List.set_cons_succ]
        clear hS
        refine wpAnyH_done (by kernel_rfl) ?_ _
        have HOn := Lib.hid (HO.out.tail.tail)
        clear HO
        have HO := HOn
        clear HOn
        go_wp2_with fail
        have HOd := Lib.hid (HO.out.below (bself W8).drew)
        clear HO
        refine wp_region_held_drew (S := fun w' => Kp w' ((gy, oy) :: (gs, os) :: (N1, .cells (pdC p) 42 (0, 0)) :: lt)) (by kernel_rfl) HOd.out.kp (fun hS => ?_)
        generalize hW10 : W8.drew = W10 at hS HOd ⊢
        clear hW10
        have HO := HOd
        clear HOd
        refine takeY (i := 0) (some 91) (v := v9) rfl rfl (by kernel_rfl) (by kernel_rfl) (by kernel_rfl) (fun _ _ _ h => h) (by rfl) (fun w' hS => by go_simp) hS ?_
        simp only [Act.put, List.setIfInBounds_toArray, List.set_cons_zero, List.set_cons_succ]
        refine takeY (i := 1) (some 92) (v := .pointer (some ⟨N1, 28, none⟩)) rfl rfl (by kernel_rfl) (by kernel_rfl) (by kernel_rfl) (fun _ _ _ h => h) (by rfl) (fun w' hS => by go_simp) hS ?_
        simp only [Act.put, List.setIfInBounds_toArray, List.set_cons_zero, List.set_cons_succ]
        refine takeY (i := 2) (some 93) (v := .int .u32 (p.sq : Int)) rfl rfl (by kernel_rfl) (by kernel_rfl) (by kernel_rfl) (fun _ _ _ h => h) (by rfl) (fun w' hS => by (have c9 : w'.cell? ⟨N1, 28, none⟩ = some (.int .u32 (p.sq : Int)) := (PdT.cell (t := 42) (p := p) hS.tail.tail.head 28).trans rfl; clear hS; go_simp)) hS ?_
        simp only [Act.put, List.setIfInBounds_toArray, List.set_cons_zero, List.set_cons_succ]
        refine takeY (i := 3) (some 94) (v := .int .u64 (p.sq : Int)) rfl rfl (by kernel_rfl) (by kernel_rfl) (by kernel_rfl) (fun _ _ _ h => h) (by rfl) (fun w' hS => by (have hq := HP.out.2.2.2.1; clear hS; go_simp; simp [IntKind.wrap, IntKind.signed, IntKind.bits]; omega)) hS ?_
        simp only [Act.put, List.setIfInBounds_toArray, List.set_cons_zero, List.set_cons_succ]
        refine takeY (i := 8) (some 99) (v := .pointer (some ⟨N1, 29, none⟩)) rfl rfl (by kernel_rfl) (by kernel_rfl) (by kernel_rfl) (fun _ _ _ h => h) (by rfl) (fun w' hS => by go_simp) hS ?_
        simp only [Act.put, List.setIfInBounds_toArray, List.set_cons_zero, List.set_cons_succ]
        refine takeY (i := 9) (some 100) (v := .int .u8 p.bi) rfl rfl (by kernel_rfl) (by kernel_rfl) (by kernel_rfl) (fun _ _ _ h => h) (by rfl) (fun w' hS => by (have c9 : w'.cell? ⟨N1, 29, none⟩ = some (.int .u8 p.bi) := (PdT.cell (t := 42) (p := p) hS.tail.tail.head 29).trans rfl; clear hS; go_simp)) hS ?_
        simp only [Act.put, List.setIfInBounds_toArray, List.set_cons_zero, List.set_cons_succ]
        refine wpAnyH_ready (show Region.ready _ _ _ = [4, 6, 10] from by kernel_rfl) (by simp) (consCE (i := 4) (some 95) 94 #[.int .u64 (p.sq : Int), .int .i64 4] (R := fun v w' => ∃ g c, v = .slice (some ⟨g, 0, none⟩) 4 c ∧ W10.heap.size ≤ g ∧ Own8 w' g 4 c (putZ p.sq 4) ∧ Below W10.heap.size W10 w') rfl rfl (by rfl) (by clear hS HO; go_simp) ((bytes_any p.sq 4 W10 (by have := HP.out.2.2.2.1; omega) (by decide) (by decide)).mono fun e w' h => by obtain ⟨g, h1, h2, h3, h4⟩ := h; exact ⟨_, h1, g, 4, rfl, h2, h3, h4⟩) (fun v w' h => by obtain ⟨_, _, _, _, _, h4⟩ := h; exact hS.below h4) ?_ (consVW (i := 6) (some 97) (v := .slice (some ⟨W10.heap.size, 0, none⟩) 2 2) (w' := W10.alloc (.cells #[.int .u8 0, .int .u8 0] 5)) rfl rfl (by rfl) (by clear hS HO; go_simp) (Out.alloc HO.out _ _).tail.kp ?_ (consVW (i := 10) (some 101) (v := .slice (some ⟨W10.heap.size, 0, none⟩) 1 1) (w' := W10.alloc (.cells #[.int .u8 p.bi] 5)) rfl rfl (by rfl) (by clear hS HO; go_simp) (Out.alloc HO.out _ _).tail.kp ?_ AllReadyH.nil)))
        · skip
          intro vx W11 h hS2
          obtain ⟨gt, ct, rfl, hgt, hot, hb⟩ := h
          simp only [Act.put, List.setIfInBounds_toArray, List.set_cons_zero, List.set_cons_succ]
          obtain ⟨ot, hkt, hrt⟩ := own8_has hot
          have HOn := Lib.hid (HO.out.new hb hgt hkt)
          have HRt := Lib.hid hrt
          clear HO hb hgt hkt hrt hot hS2
          have HO := HOn
          clear HOn
          clear hS
          have hS := HO.out.tail.kp
          refine wpAnyH_ready (show Region.ready _ _ _ = [5, 6, 10] from by kernel_rfl) (by simp) (consOut (i := 5) (some 96) (.tmp 91) (.tmp 95) rfl rfl (by rfl) rfl rfl HO.out (some ⟨gt, 0, none⟩) 4 ct (putZ p.sq 4) rfl ((HRt.out _ HO.out.kp.head).rd) (fun e => by cases e) (by omega) ?_ (consVW (i := 6) (some 97) (v := .slice (some ⟨W11.heap.size, 0, none⟩) 2 2) (w' := W11.alloc (.cells #[.int .u8 0, .int .u8 0] 5)) rfl rfl (by rfl) (by clear hS HO; go_simp) (Out.alloc HO.out.tail _ _).tail.kp ?_ (consVW (i := 10) (some 101) (v := .slice (some ⟨W11.heap.size, 0, none⟩) 1 1) (w' := W11.alloc (.cells #[.int .u8 p.bi] 5)) rfl rfl (by rfl) (by clear hS HO; go_simp) (Out.alloc HO.out.tail _ _).tail.kp ?_ AllReadyH.nil)))
          · skip
            intro v13 W12 ho
            refine ⟨ho.tail.kp, ?_⟩
            simp only [Act.put, List.setIfInBounds_toArray, List.set_cons_zero, List.set_cons_succ]
            have HOn : Hid (Out w W12 v13 24 (accZ p (27 + T) 2 4) ((gt, ot) :: (gy, oy) :: (gs, os) :: (N1, .cells (pdC p) 42 (0, 0)) :: lt)) := Lib.hid ho
            clear HO ho
            have HO := HOn
            clear HOn
            clear hS
            have hS := HO.out.tail.kp
            refine wpAnyH_ready (show Region.ready _ _ _ = [6, 10] from by kernel_rfl) (by simp) (consVW (i := 6) (some 97) (v := .slice (some ⟨W12.heap.size, 0, none⟩) 2 2) (w' := W12.alloc (.cells #[.int .u8 0, .int .u8 0] 5)) rfl rfl (by rfl) (by clear hS HO; go_simp) (Out.alloc HO.out.tail _ _).tail.kp ?_ (consVW (i := 10) (some 101) (v := .slice (some ⟨W12.heap.size, 0, none⟩) 1 1) (w' := W12.alloc (.cells #[.int .u8 p.bi] 5)) rfl rfl (by rfl) (by clear hS HO; go_simp) (Out.alloc HO.out.tail _ _).tail.kp ?_ AllReadyH.nil))
            · skip
              simp only [Act.put, List.setIfInBounds_toArray, List.set_cons_zero, List.set_cons_succ]
              have HOn := Lib.hid (Out.alloc HO.out #[.int .u8 0, .int .u8 0] 5)
              clear HO
              obtain ⟨gz, hgz⟩ : ∃ g, W12.heap.size = g := ⟨_, rfl⟩
              rw [hgz] at HOn ⊢
              generalize hW14 : W12.alloc (.cells #[.int .u8 0, .int .u8 0] 5) = W14 at HOn ⊢
              clear hW14 hgz
              have HO := HOn
              clear HOn
              clear hS
              have hS := HO.out.tail.tail.kp
              refine wpAnyH_ready (show Region.ready _ _ _ = [7, 10] from by kernel_rfl) (by simp) (consOut (i := 7) (some 98) (.tmp 96) (.tmp 97) rfl rfl (by rfl) rfl rfl HO.out (some ⟨gz, 0, none⟩) 2 2 (fun _ => 0) rfl (rd_two0 HO.out.kp.head) (fun e => by cases e) (by omega) ?_ (consVW (i := 10) (some 101) (v := .slice (some ⟨W14.heap.size, 0, none⟩) 1 1) (w' := W14.alloc (.cells #[.int .u8 p.bi] 5)) rfl rfl (by rfl) (by clear hS HO; go_simp) (Out.alloc HO.out.tail.tail _ _).tail.kp ?_ AllReadyH.nil))
              · skip
                intro v16 W15 ho
                refine ⟨ho.tail.tail.kp, ?_⟩
                simp only [Act.put, List.setIfInBounds_toArray, List.set_cons_zero, List.set_cons_succ]
                have HOn : Hid (Out w W15 v16 26 (accZ p (27 + T) 2 5) ((gz, .cells #[.int .u8 0, .int .u8 0] 5 (0, 0)) :: (gt, ot) :: (gy, oy) :: (gs, os) :: (N1, .cells (pdC p) 42 (0, 0)) :: lt)) := Lib.hid ho
                clear HO ho
                have HO := HOn
                clear HOn
                clear hS
                have hS := HO.out.tail.tail.kp
                refine takeV (i := 10) (some 101) (v := .slice (some ⟨W15.heap.size, 0, none⟩) 1 1) (w' := W15.alloc (.cells #[.int .u8 p.bi] 5)) rfl rfl (by kernel_rfl) (by rfl) (by clear hS HO; go_simp) (Out.alloc HO.out.tail.tail _ _).tail.kp ?_
                simp only [Act.put, List.setIfInBounds_toArray, List.set_cons_zero, List.set_cons_succ]
                have HOn := Lib.hid (Out.alloc HO.out #[.int .u8 p.bi] 5)
                clear HO
                obtain ⟨gb, hgb⟩ : ∃ g, W15.heap.size = g := ⟨_, rfl⟩
                rw [hgb] at HOn ⊢
                generalize hW17 : W15.alloc (.cells #[.int .u8 p.bi] 5) = W17 at HOn ⊢
                clear hW17 hgb
                have HO := HOn
                clear HOn
                clear hS
                have hS := HO.out.tail.tail.tail.kp
                refine takeOut (i := 11) (some 102) (.tmp 98) (.tmp 101) rfl rfl (by kernel_rfl) (by rfl) rfl rfl HO.out (some ⟨gb, 0, none⟩) 1 1 (fun _ => p.bi) rfl (rd_one HO.out.kp.head rfl HP.out.2.2.2.2.1) (fun e => by cases e) (by omega) ?_
                intro v19 W18 ho
                refine ⟨ho.tail.tail.tail.kp, ?_⟩
                simp only [Act.put, List.setIfInBounds_toArray, List.set_cons_zero, List.set_cons_succ]
                have HOn : Hid (Out w W18 v19 27 (accZ p (27 + T) 2 6) ((gb, .cells #[.int .u8 p.bi] 5 (0, 0)) :: (gz, .cells #[.int .u8 0, .int .u8 0] 5 (0, 0)) :: (gt, ot) :: (gy, oy) :: (gs, os) :: (N1, .cells (pdC p) 42 (0, 0)) :: lt)) := Lib.hid ho
                clear HO ho
                have HO := HOn
                clear HOn
                clear hS
                have hS := HO.out.tail.tail.tail.kp
                refine takeY (i := 12) (some 5) (v := v19) rfl rfl (by kernel_rfl) (by kernel_rfl) (by kernel_rfl) (fun _ _ _ h => h) (by rfl) (fun w' hS => by go_simp) hS ?_
                simp only [Act.put, List.setIfInBounds_toArray, List.set_cons_zero, List.set_cons_succ]
                clear hS
                refine wpAnyH_done (by kernel_rfl) ?_ _
                have HOn := Lib.hid (HO.out.tail.tail.tail)
                clear HO
                have HO := HOn
                clear HOn
                go_wp2_with fail
                go_meet
                case rel => exact HO
              · skip
                simp only [Act.put, List.setIfInBounds_toArray, List.set_cons_zero, List.set_cons_succ]
                have HOn := Lib.hid (Out.alloc HO.out #[.int .u8 p.bi] 5)
                clear HO
                obtain ⟨gb, hgb⟩ : ∃ g, W14.heap.size = g := ⟨_, rfl⟩
                rw [hgb] at HOn ⊢
                generalize hW15 : W14.alloc (.cells #[.int .u8 p.bi] 5) = W15 at HOn ⊢
                clear hW15 hgb
                have HO := HOn
                clear HOn
                clear hS
                have hS := HO.out.tail.tail.tail.kp
                refine takeOut (i := 7) (some 98) (.tmp 96) (.tmp 97) rfl rfl (by kernel_rfl) (by rfl) rfl rfl HO.out (some ⟨gz, 0, none⟩) 2 2 (fun _ => 0) rfl (rd_two0 HO.out.kp.tail.head) (fun e => by cases e) (by omega) ?_
                intro v17 W16 ho
                refine ⟨ho.tail.tail.tail.kp, ?_⟩
                simp only [Act.put, List.setIfInBounds_toArray, List.set_cons_zero, List.set_cons_succ]
                have HOn : Hid (Out w W16 v17 26 (accZ p (27 + T) 2 5) ((gb, .cells #[.int .u8 p.bi] 5 (0, 0)) :: (gz, .cells #[.int .u8 0, .int .u8 0] 5 (0, 0)) :: (gt, ot) :: (gy, oy) :: (gs, os) :: (N1, .cells (pdC p) 42 (0, 0)) :: lt)) := Lib.hid ho
                clear HO ho
                have HO := HOn
                clear HOn
                clear hS
                have hS := HO.out.tail.tail.tail.kp
                refine takeOut (i := 11) (some 102) (.tmp 98) (.tmp 101) rfl rfl (by kernel_rfl) (by rfl) rfl rfl HO.out (some ⟨gb, 0, none⟩) 1 1 (fun _ => p.bi) rfl (rd_one HO.out.kp.head rfl HP.out.2.2.2.2.1) (fun e => by cases e) (by omega) ?_
                intro v19 W18 ho
                refine ⟨ho.tail.tail.tail.kp, ?_⟩
                simp only [Act.put, List.setIfInBounds_toArray, List.set_cons_zero, List.set_cons_succ]
                have HOn : Hid (Out w W18 v19 27 (accZ p (27 + T) 2 6) ((gb, .cells #[.int .u8 p.bi] 5 (0, 0)) :: (gz, .cells #[.int .u8 0, .int .u8 0] 5 (0, 0)) :: (gt, ot) :: (gy, oy) :: (gs, os) :: (N1, .cells (pdC p) 42 (0, 0)) :: lt)) := Lib.hid ho
                clear HO ho
                have HO := HOn
                clear HOn
                clear hS
                have hS := HO.out.tail.tail.tail.kp
                refine takeY (i := 12) (some 5) (v := v19) rfl rfl (by kernel_rfl) (by kernel_rfl) (by kernel_rfl) (fun _ _ _ h => h) (by rfl) (fun w' hS => by go_simp) hS ?_
                simp only [Act.put, List.setIfInBounds_toArray, List.set_cons_zero, List.set_cons_succ]
                clear hS
                refine wpAnyH_done (by kernel_rfl) ?_ _
                have HOn := Lib.hid (HO.out.tail.tail.tail)
                clear HO
                have HO := HOn
                clear HOn
                go_wp2_with fail
                go_meet
                case rel => exact HO
            · skip
              simp only [Act.put, List.setIfInBounds_toArray, List.set_cons_zero, List.set_cons_succ]
              have HOn := Lib.hid (Out.alloc HO.out #[.int .u8 p.bi] 5)
              clear HO
              obtain ⟨gb, hgb⟩ : ∃ g, W12.heap.size = g := ⟨_, rfl⟩
              rw [hgb] at HOn ⊢
              generalize hW14 : W12.alloc (.cells #[.int .u8 p.bi] 5) = W14 at HOn ⊢
              clear hW14 hgb
              have HO := HOn
              clear HOn
              clear hS
              have hS := HO.out.tail.tail.kp
              refine takeV (i := 6) (some 97) (v := .slice (some ⟨W14.heap.size, 0, none⟩) 2 2) (w' := W14.alloc (.cells #[.int .u8 0, .int .u8 0] 5)) rfl rfl (by kernel_rfl) (by rfl) (by clear hS HO; go_simp) (Out.alloc HO.out.tail.tail _ _).tail.kp ?_
              simp only [Act.put, List.setIfInBounds_toArray, List.set_cons_zero, List.set_cons_succ]
              have HOn := Lib.hid (Out.alloc HO.out #[.int .u8 0, .int .u8 0] 5)
              clear HO
              obtain ⟨gz, hgz⟩ : ∃ g, W14.heap.size = g := ⟨_, rfl⟩
              rw [hgz] at HOn ⊢
              generalize hW15 : W14.alloc (.cells #[.int .u8 0, .int .u8 0] 5) = W15 at HOn ⊢
              clear hW15 hgz
              have HO := HOn
              clear HOn
              clear hS
              have hS := HO.out.tail.tail.tail.kp
              refine takeOut (i := 7) (some 98) (.tmp 96) (.tmp 97) rfl rfl (by kernel_rfl) (by rfl) rfl rfl HO.out (some ⟨gz, 0, none⟩) 2 2 (fun _ => 0) rfl (rd_two0 HO.out.kp.head) (fun e => by cases e) (by omega) ?_
              intro v17 W16 ho
              refine ⟨ho.tail.tail.tail.kp, ?_⟩
              simp only [Act.put, List.setIfInBounds_toArray, List.set_cons_zero, List.set_cons_succ]
              have HOn : Hid (Out w W16 v17 26 (accZ p (27 + T) 2 5) ((gz, .cells #[.int .u8 0, .int .u8 0] 5 (0, 0)) :: (gb, .cells #[.int .u8 p.bi] 5 (0, 0)) :: (gt, ot) :: (gy, oy) :: (gs, os) :: (N1, .cells (pdC p) 42 (0, 0)) :: lt)) := Lib.hid ho
              clear HO ho
              have HO := HOn
              clear HOn
              clear hS
              have hS := HO.out.tail.tail.tail.kp
              refine takeOut (i := 11) (some 102) (.tmp 98) (.tmp 101) rfl rfl (by kernel_rfl) (by rfl) rfl rfl HO.out (some ⟨gb, 0, none⟩) 1 1 (fun _ => p.bi) rfl (rd_one HO.out.kp.tail.head rfl HP.out.2.2.2.2.1) (fun e => by cases e) (by omega) ?_
              intro v19 W18 ho
              refine ⟨ho.tail.tail.tail.kp, ?_⟩
              simp only [Act.put, List.setIfInBounds_toArray, List.set_cons_zero, List.set_cons_succ]
              have HOn : Hid (Out w W18 v19 27 (accZ p (27 + T) 2 6) ((gz, .cells #[.int .u8 0, .int .u8 0] 5 (0, 0)) :: (gb, .cells #[.int .u8 p.bi] 5 (0, 0)) :: (gt, ot) :: (gy, oy) :: (gs, os) :: (N1, .cells (pdC p) 42 (0, 0)) :: lt)) := Lib.hid ho
              clear HO ho
              have HO := HOn
              clear HOn
              clear hS
              have hS := HO.out.tail.tail.tail.kp
              refine takeY (i := 12) (some 5) (v := v19) rfl rfl (by kernel_rfl) (by kernel_rfl) (by kernel_rfl) (fun _ _ _ h => h) (by rfl) (fun w' hS => by go_simp) hS ?_
              simp only [Act.put, List.setIfInBounds_toArray, List.set_cons_zero, List.set_cons_succ]
              clear hS
              refine wpAnyH_done (by kernel_rfl) ?_ _
              have HOn := Lib.hid (HO.out.tail.tail.tail)
              clear HO
              have HO := HOn
              clear HOn
              go_wp2_with fail
              go_meet
              case rel => exact HO
          · skip
            simp only [Act.put, List.setIfInBounds_toArray, List.set_cons_zero, List.set_cons_succ]
            have HOn := Lib.hid (Out.alloc HO.out #[.int .u8 0, .int .u8 0] 5)
            clear HO
            obtain ⟨gz, hgz⟩ : ∃ g, W11.heap.size = g := ⟨_, rfl⟩
            rw [hgz] at HOn ⊢
            generalize hW12 : W11.alloc (.cells #[.int .u8 0, .int .u8 0] 5) = W12 at HOn ⊢
            clear hW12 hgz
            have HO := HOn
            clear HOn
            clear hS
            have hS := HO.out.tail.tail.kp
            refine wpAnyH_ready (show Region.ready _ _ _ = [5, 10] from by kernel_rfl) (by simp) (consOut (i := 5) (some 96) (.tmp 91) (.tmp 95) rfl rfl (by rfl) rfl rfl HO.out (some ⟨gt, 0, none⟩) 4 ct (putZ p.sq 4) rfl ((HRt.out _ HO.out.kp.tail.head).rd) (fun e => by cases e) (by omega) ?_ (consVW (i := 10) (some 101) (v := .slice (some ⟨W12.heap.size, 0, none⟩) 1 1) (w' := W12.alloc (.cells #[.int .u8 p.bi] 5)) rfl rfl (by rfl) (by clear hS HO; go_simp) (Out.alloc HO.out.tail.tail _ _).tail.kp ?_ AllReadyH.nil))
            · skip
              intro v14 W13 ho
              refine ⟨ho.tail.tail.kp, ?_⟩
              simp only [Act.put, List.setIfInBounds_toArray, List.set_cons_zero, List.set_cons_succ]
              have HOn : Hid (Out w W13 v14 24 (accZ p (27 + T) 2 4) ((gz, .cells #[.int .u8 0, .int .u8 0] 5 (0, 0)) :: (gt, ot) :: (gy, oy) :: (gs, os) :: (N1, .cells (pdC p) 42 (0, 0)) :: lt)) := Lib.hid ho
              clear HO ho
              have HO := HOn
              clear HOn
              clear hS
              have hS := HO.out.tail.tail.kp
              refine wpAnyH_ready (show Region.ready _ _ _ = [7, 10] from by kernel_rfl) (by simp) (consOut (i := 7) (some 98) (.tmp 96) (.tmp 97) rfl rfl (by rfl) rfl rfl HO.out (some ⟨gz, 0, none⟩) 2 2 (fun _ => 0) rfl (rd_two0 HO.out.kp.head) (fun e => by cases e) (by omega) ?_ (consVW (i := 10) (some 101) (v := .slice (some ⟨W13.heap.size, 0, none⟩) 1 1) (w' := W13.alloc (.cells #[.int .u8 p.bi] 5)) rfl rfl (by rfl) (by clear hS HO; go_simp) (Out.alloc HO.out.tail.tail _ _).tail.kp ?_ AllReadyH.nil))
              · skip
                intro v16 W15 ho
                refine ⟨ho.tail.tail.kp, ?_⟩
                simp only [Act.put, List.setIfInBounds_toArray, List.set_cons_zero, List.set_cons_succ]
                have HOn : Hid (Out w W15 v16 26 (accZ p (27 + T) 2 5) ((gz, .cells #[.int .u8 0, .int .u8 0] 5 (0, 0)) :: (gt, ot) :: (gy, oy) :: (gs, os) :: (N1, .cells (pdC p) 42 (0, 0)) :: lt)) := Lib.hid ho
                clear HO ho
                have HO := HOn
                clear HOn
                clear hS
                have hS := HO.out.tail.tail.kp
                refine takeV (i := 10) (some 101) (v := .slice (some ⟨W15.heap.size, 0, none⟩) 1 1) (w' := W15.alloc (.cells #[.int .u8 p.bi] 5)) rfl rfl (by kernel_rfl) (by rfl) (by clear hS HO; go_simp) (Out.alloc HO.out.tail.tail _ _).tail.kp ?_
                simp only [Act.put, List.setIfInBounds_toArray, List.set_cons_zero, List.set_cons_succ]
                have HOn := Lib.hid (Out.alloc HO.out #[.int .u8 p.bi] 5)
                clear HO
                obtain ⟨gb, hgb⟩ : ∃ g, W15.heap.size = g := ⟨_, rfl⟩
                rw [hgb] at HOn ⊢
                generalize hW17 : W15.alloc (.cells #[.int .u8 p.bi] 5) = W17 at HOn ⊢
                clear hW17 hgb
                have HO := HOn
                clear HOn
                clear hS
                have hS := HO.out.tail.tail.tail.kp
                refine takeOut (i := 11) (some 102) (.tmp 98) (.tmp 101) rfl rfl (by kernel_rfl) (by rfl) rfl rfl HO.out (some ⟨gb, 0, none⟩) 1 1 (fun _ => p.bi) rfl (rd_one HO.out.kp.head rfl HP.out.2.2.2.2.1) (fun e => by cases e) (by omega) ?_
                intro v19 W18 ho
                refine ⟨ho.tail.tail.tail.kp, ?_⟩
                simp only [Act.put, List.setIfInBounds_toArray, List.set_cons_zero, List.set_cons_succ]
                have HOn : Hid (Out w W18 v19 27 (accZ p (27 + T) 2 6) ((gb, .cells #[.int .u8 p.bi] 5 (0, 0)) :: (gz, .cells #[.int .u8 0, .int .u8 0] 5 (0, 0)) :: (gt, ot) :: (gy, oy) :: (gs, os) :: (N1, .cells (pdC p) 42 (0, 0)) :: lt)) := Lib.hid ho
                clear HO ho
                have HO := HOn
                clear HOn
                clear hS
                have hS := HO.out.tail.tail.tail.kp
                refine takeY (i := 12) (some 5) (v := v19) rfl rfl (by kernel_rfl) (by kernel_rfl) (by kernel_rfl) (fun _ _ _ h => h) (by rfl) (fun w' hS => by go_simp) hS ?_
                simp only [Act.put, List.setIfInBounds_toArray, List.set_cons_zero, List.set_cons_succ]
                clear hS
                refine wpAnyH_done (by kernel_rfl) ?_ _
                have HOn := Lib.hid (HO.out.tail.tail.tail)
                clear HO
                have HO := HOn
                clear HOn
                go_wp2_with fail
                go_meet
                case rel => exact HO
              · skip
                simp only [Act.put, List.setIfInBounds_toArray, List.set_cons_zero, List.set_cons_succ]
                have HOn := Lib.hid (Out.alloc HO.out #[.int .u8 p.bi] 5)
                clear HO
                obtain ⟨gb, hgb⟩ : ∃ g, W13.heap.size = g := ⟨_, rfl⟩
                rw [hgb] at HOn ⊢
                generalize hW15 : W13.alloc (.cells #[.int .u8 p.bi] 5) = W15 at HOn ⊢
                clear hW15 hgb
                have HO := HOn
                clear HOn
                clear hS
                have hS := HO.out.tail.tail.tail.kp
                refine takeOut (i := 7) (some 98) (.tmp 96) (.tmp 97) rfl rfl (by kernel_rfl) (by rfl) rfl rfl HO.out (some ⟨gz, 0, none⟩) 2 2 (fun _ => 0) rfl (rd_two0 HO.out.kp.tail.head) (fun e => by cases e) (by omega) ?_
                intro v17 W16 ho
                refine ⟨ho.tail.tail.tail.kp, ?_⟩
                simp only [Act.put, List.setIfInBounds_toArray, List.set_cons_zero, List.set_cons_succ]
                have HOn : Hid (Out w W16 v17 26 (accZ p (27 + T) 2 5) ((gb, .cells #[.int .u8 p.bi] 5 (0, 0)) :: (gz, .cells #[.int .u8 0, .int .u8 0] 5 (0, 0)) :: (gt, ot) :: (gy, oy) :: (gs, os) :: (N1, .cells (pdC p) 42 (0, 0)) :: lt)) := Lib.hid ho
                clear HO ho
                have HO := HOn
                clear HOn
                clear hS
                have hS := HO.out.tail.tail.tail.kp
                refine takeOut (i := 11) (some 102) (.tmp 98) (.tmp 101) rfl rfl (by kernel_rfl) (by rfl) rfl rfl HO.out (some ⟨gb, 0, none⟩) 1 1 (fun _ => p.bi) rfl (rd_one HO.out.kp.head rfl HP.out.2.2.2.2.1) (fun e => by cases e) (by omega) ?_
                intro v19 W18 ho
                refine ⟨ho.tail.tail.tail.kp, ?_⟩
                simp only [Act.put, List.setIfInBounds_toArray, List.set_cons_zero, List.set_cons_succ]
                have HOn : Hid (Out w W18 v19 27 (accZ p (27 + T) 2 6) ((gb, .cells #[.int .u8 p.bi] 5 (0, 0)) :: (gz, .cells #[.int .u8 0, .int .u8 0] 5 (0, 0)) :: (gt, ot) :: (gy, oy) :: (gs, os) :: (N1, .cells (pdC p) 42 (0, 0)) :: lt)) := Lib.hid ho
                clear HO ho
                have HO := HOn
                clear HOn
                clear hS
                have hS := HO.out.tail.tail.tail.kp
                refine takeY (i := 12) (some 5) (v := v19) rfl rfl (by kernel_rfl) (by kernel_rfl) (by kernel_rfl) (fun _ _ _ h => h) (by rfl) (fun w' hS => by go_simp) hS ?_
                simp only [Act.put, List.setIfInBounds_toArray, List.set_cons_zero, List.set_cons_succ]
                clear hS
                refine wpAnyH_done (by kernel_rfl) ?_ _
                have HOn := Lib.hid (HO.out.tail.tail.tail)
                clear HO
                have HO := HOn
                clear HOn
                go_wp2_with fail
                go_meet
                case rel => exact HO
            · skip
              simp only [Act.put, List.setIfInBounds_toArray, List.set_cons_zero, List.set_cons_succ]
              have HOn := Lib.hid (Out.alloc HO.out #[.int .u8 p.bi] 5)
              clear HO
              obtain ⟨gb, hgb⟩ : ∃ g, W12.heap.size = g := ⟨_, rfl⟩
              rw [hgb] at HOn ⊢
              generalize hW13 : W12.alloc (.cells #[.int .u8 p.bi] 5) = W13 at HOn ⊢
              clear hW13 hgb
              have HO := HOn
              clear HOn
              clear hS
              have hS := HO.out.tail.tail.tail.kp
              refine takeOut (i := 5) (some 96) (.tmp 91) (.tmp 95) rfl rfl (by kernel_rfl) (by rfl) rfl rfl HO.out (some ⟨gt, 0, none⟩) 4 ct (putZ p.sq 4) rfl ((HRt.out _ HO.out.kp.tail.tail.head).rd) (fun e => by cases e) (by omega) ?_
              intro v15 W14 ho
              refine ⟨ho.tail.tail.tail.kp, ?_⟩
              simp only [Act.put, List.setIfInBounds_toArray, List.set_cons_zero, List.set_cons_succ]
              have HOn : Hid (Out w W14 v15 24 (accZ p (27 + T) 2 4) ((gb, .cells #[.int .u8 p.bi] 5 (0, 0)) :: (gz, .cells #[.int .u8 0, .int .u8 0] 5 (0, 0)) :: (gt, ot) :: (gy, oy) :: (gs, os) :: (N1, .cells (pdC p) 42 (0, 0)) :: lt)) := Lib.hid ho
              clear HO ho
              have HO := HOn
              clear HOn
              clear hS
              have hS := HO.out.tail.tail.tail.kp
              refine takeOut (i := 7) (some 98) (.tmp 96) (.tmp 97) rfl rfl (by kernel_rfl) (by rfl) rfl rfl HO.out (some ⟨gz, 0, none⟩) 2 2 (fun _ => 0) rfl (rd_two0 HO.out.kp.tail.head) (fun e => by cases e) (by omega) ?_
              intro v17 W16 ho
              refine ⟨ho.tail.tail.tail.kp, ?_⟩
              simp only [Act.put, List.setIfInBounds_toArray, List.set_cons_zero, List.set_cons_succ]
              have HOn : Hid (Out w W16 v17 26 (accZ p (27 + T) 2 5) ((gb, .cells #[.int .u8 p.bi] 5 (0, 0)) :: (gz, .cells #[.int .u8 0, .int .u8 0] 5 (0, 0)) :: (gt, ot) :: (gy, oy) :: (gs, os) :: (N1, .cells (pdC p) 42 (0, 0)) :: lt)) := Lib.hid ho
              clear HO ho
              have HO := HOn
              clear HOn
              clear hS
              have hS := HO.out.tail.tail.tail.kp
              refine takeOut (i := 11) (some 102) (.tmp 98) (.tmp 101) rfl rfl (by kernel_rfl) (by rfl) rfl rfl HO.out (some ⟨gb, 0, none⟩) 1 1 (fun _ => p.bi) rfl (rd_one HO.out.kp.head rfl HP.out.2.2.2.2.1) (fun e => by cases e) (by omega) ?_
              intro v19 W18 ho
              refine ⟨ho.tail.tail.tail.kp, ?_⟩
              simp only [Act.put, List.setIfInBounds_toArray, List.set_cons_zero, List.set_cons_succ]
              have HOn : Hid (Out w W18 v19 27 (accZ p (27 + T) 2 6) ((gb, .cells #[.int .u8 p.bi] 5 (0, 0)) :: (gz, .cells #[.int .u8 0, .int .u8 0] 5 (0, 0)) :: (gt, ot) :: (gy, oy) :: (gs, os) :: (N1, .cells (pdC p) 42 (0, 0)) :: lt)) := Lib.hid ho
              clear HO ho
              have HO := HOn
              clear HOn
              clear hS
              have hS := HO.out.tail.tail.tail.kp
              refine takeY (i := 12) (some 5) (v := v19) rfl rfl (by kernel_rfl) (by kernel_rfl) (by kernel_rfl) (fun _ _ _ h => h) (by rfl) (fun w' hS => by go_simp) hS ?_
              simp only [Act.put, List.setIfInBounds_toArray, List.set_cons_zero, List.set_cons_succ]
              clear hS
              refine wpAnyH_done (by kernel_rfl) ?_ _
              have HOn := Lib.hid (HO.out.tail.tail.tail)
              clear HO
              have HO := HOn
              clear HOn
              go_wp2_with fail
              go_meet
              case rel => exact HO
          · skip
            simp only [Act.put, List.setIfInBounds_toArray, List.set_cons_zero, List.set_cons_succ]
            have HOn := Lib.hid (Out.alloc HO.out #[.int .u8 p.bi] 5)
            clear HO
            obtain ⟨gb, hgb⟩ : ∃ g, W11.heap.size = g := ⟨_, rfl⟩
            rw [hgb] at HOn ⊢
            generalize hW12 : W11.alloc (.cells #[.int .u8 p.bi] 5) = W12 at HOn ⊢
            clear hW12 hgb
            have HO := HOn
            clear HOn
            clear hS
            have hS := HO.out.tail.tail.kp
            refine wpAnyH_ready (show Region.ready _ _ _ = [5, 6] from by kernel_rfl) (by simp) (consOut (i := 5) (some 96) (.tmp 91) (.tmp 95) rfl rfl (by rfl) rfl rfl HO.out (some ⟨gt, 0, none⟩) 4 ct (putZ p.sq 4) rfl ((HRt.out _ HO.out.kp.tail.head).rd) (fun e => by cases e) (by omega) ?_ (consVW (i := 6) (some 97) (v := .slice (some ⟨W12.heap.size, 0, none⟩) 2 2) (w' := W12.alloc (.cells #[.int .u8 0, .int .u8 0] 5)) rfl rfl (by rfl) (by clear hS HO; go_simp) (Out.alloc HO.out.tail.tail _ _).tail.kp ?_ AllReadyH.nil))
            · skip
              intro v14 W13 ho
              refine ⟨ho.tail.tail.kp, ?_⟩
              simp only [Act.put, List.setIfInBounds_toArray, List.set_cons_zero, List.set_cons_succ]
              have HOn : Hid (Out w W13 v14 24 (accZ p (27 + T) 2 4) ((gb, .cells #[.int .u8 p.bi] 5 (0, 0)) :: (gt, ot) :: (gy, oy) :: (gs, os) :: (N1, .cells (pdC p) 42 (0, 0)) :: lt)) := Lib.hid ho
              clear HO ho
              have HO := HOn
              clear HOn
              clear hS
              have hS := HO.out.tail.tail.kp
              refine takeV (i := 6) (some 97) (v := .slice (some ⟨W13.heap.size, 0, none⟩) 2 2) (w' := W13.alloc (.cells #[.int .u8 0, .int .u8 0] 5)) rfl rfl (by kernel_rfl) (by rfl) (by clear hS HO; go_simp) (Out.alloc HO.out.tail.tail _ _).tail.kp ?_
              simp only [Act.put, List.setIfInBounds_toArray, List.set_cons_zero, List.set_cons_succ]
              have HOn := Lib.hid (Out.alloc HO.out #[.int .u8 0, .int .u8 0] 5)
              clear HO
              obtain ⟨gz, hgz⟩ : ∃ g, W13.heap.size = g := ⟨_, rfl⟩
              rw [hgz] at HOn ⊢
              generalize hW15 : W13.alloc (.cells #[.int .u8 0, .int .u8 0] 5) = W15 at HOn ⊢
              clear hW15 hgz
              have HO := HOn
              clear HOn
              clear hS
              have hS := HO.out.tail.tail.tail.kp
              refine takeOut (i := 7) (some 98) (.tmp 96) (.tmp 97) rfl rfl (by kernel_rfl) (by rfl) rfl rfl HO.out (some ⟨gz, 0, none⟩) 2 2 (fun _ => 0) rfl (rd_two0 HO.out.kp.head) (fun e => by cases e) (by omega) ?_
              intro v17 W16 ho
              refine ⟨ho.tail.tail.tail.kp, ?_⟩
              simp only [Act.put, List.setIfInBounds_toArray, List.set_cons_zero, List.set_cons_succ]
              have HOn : Hid (Out w W16 v17 26 (accZ p (27 + T) 2 5) ((gz, .cells #[.int .u8 0, .int .u8 0] 5 (0, 0)) :: (gb, .cells #[.int .u8 p.bi] 5 (0, 0)) :: (gt, ot) :: (gy, oy) :: (gs, os) :: (N1, .cells (pdC p) 42 (0, 0)) :: lt)) := Lib.hid ho
              clear HO ho
              have HO := HOn
              clear HOn
              clear hS
              have hS := HO.out.tail.tail.tail.kp
              refine takeOut (i := 11) (some 102) (.tmp 98) (.tmp 101) rfl rfl (by kernel_rfl) (by rfl) rfl rfl HO.out (some ⟨gb, 0, none⟩) 1 1 (fun _ => p.bi) rfl (rd_one HO.out.kp.tail.head rfl HP.out.2.2.2.2.1) (fun e => by cases e) (by omega) ?_
              intro v19 W18 ho
              refine ⟨ho.tail.tail.tail.kp, ?_⟩
              simp only [Act.put, List.setIfInBounds_toArray, List.set_cons_zero, List.set_cons_succ]
              have HOn : Hid (Out w W18 v19 27 (accZ p (27 + T) 2 6) ((gz, .cells #[.int .u8 0, .int .u8 0] 5 (0, 0)) :: (gb, .cells #[.int .u8 p.bi] 5 (0, 0)) :: (gt, ot) :: (gy, oy) :: (gs, os) :: (N1, .cells (pdC p) 42 (0, 0)) :: lt)) := Lib.hid ho
              clear HO ho
              have HO := HOn
              clear HOn
              clear hS
              have hS := HO.out.tail.tail.tail.kp
              refine takeY (i := 12) (some 5) (v := v19) rfl rfl (by kernel_rfl) (by kernel_rfl) (by kernel_rfl) (fun _ _ _ h => h) (by rfl) (fun w' hS => by go_simp) hS ?_
              simp only [Act.put, List.setIfInBounds_toArray, List.set_cons_zero, List.set_cons_succ]
              clear hS
              refine wpAnyH_done (by kernel_rfl) ?_ _
              have HOn := Lib.hid (HO.out.tail.tail.tail)
              clear HO
              have HO := HOn
              clear HOn
              go_wp2_with fail
              go_meet
              case rel => exact HO
            · skip
              simp only [Act.put, List.setIfInBounds_toArray, List.set_cons_zero, List.set_cons_succ]
              have HOn := Lib.hid (Out.alloc HO.out #[.int .u8 0, .int .u8 0] 5)
              clear HO
              obtain ⟨gz, hgz⟩ : ∃ g, W12.heap.size = g := ⟨_, rfl⟩
              rw [hgz] at HOn ⊢
              generalize hW13 : W12.alloc (.cells #[.int .u8 0, .int .u8 0] 5) = W13 at HOn ⊢
              clear hW13 hgz
              have HO := HOn
              clear HOn
              clear hS
              have hS := HO.out.tail.tail.tail.kp
              refine takeOut (i := 5) (some 96) (.tmp 91) (.tmp 95) rfl rfl (by kernel_rfl) (by rfl) rfl rfl HO.out (some ⟨gt, 0, none⟩) 4 ct (putZ p.sq 4) rfl ((HRt.out _ HO.out.kp.tail.tail.head).rd) (fun e => by cases e) (by omega) ?_
              intro v15 W14 ho
              refine ⟨ho.tail.tail.tail.kp, ?_⟩
              simp only [Act.put, List.setIfInBounds_toArray, List.set_cons_zero, List.set_cons_succ]
              have HOn : Hid (Out w W14 v15 24 (accZ p (27 + T) 2 4) ((gz, .cells #[.int .u8 0, .int .u8 0] 5 (0, 0)) :: (gb, .cells #[.int .u8 p.bi] 5 (0, 0)) :: (gt, ot) :: (gy, oy) :: (gs, os) :: (N1, .cells (pdC p) 42 (0, 0)) :: lt)) := Lib.hid ho
              clear HO ho
              have HO := HOn
              clear HOn
              clear hS
              have hS := HO.out.tail.tail.tail.kp
              refine takeOut (i := 7) (some 98) (.tmp 96) (.tmp 97) rfl rfl (by kernel_rfl) (by rfl) rfl rfl HO.out (some ⟨gz, 0, none⟩) 2 2 (fun _ => 0) rfl (rd_two0 HO.out.kp.head) (fun e => by cases e) (by omega) ?_
              intro v17 W16 ho
              refine ⟨ho.tail.tail.tail.kp, ?_⟩
              simp only [Act.put, List.setIfInBounds_toArray, List.set_cons_zero, List.set_cons_succ]
              have HOn : Hid (Out w W16 v17 26 (accZ p (27 + T) 2 5) ((gz, .cells #[.int .u8 0, .int .u8 0] 5 (0, 0)) :: (gb, .cells #[.int .u8 p.bi] 5 (0, 0)) :: (gt, ot) :: (gy, oy) :: (gs, os) :: (N1, .cells (pdC p) 42 (0, 0)) :: lt)) := Lib.hid ho
              clear HO ho
              have HO := HOn
              clear HOn
              clear hS
              have hS := HO.out.tail.tail.tail.kp
              refine takeOut (i := 11) (some 102) (.tmp 98) (.tmp 101) rfl rfl (by kernel_rfl) (by rfl) rfl rfl HO.out (some ⟨gb, 0, none⟩) 1 1 (fun _ => p.bi) rfl (rd_one HO.out.kp.tail.head rfl HP.out.2.2.2.2.1) (fun e => by cases e) (by omega) ?_
              intro v19 W18 ho
              refine ⟨ho.tail.tail.tail.kp, ?_⟩
              simp only [Act.put, List.setIfInBounds_toArray, List.set_cons_zero, List.set_cons_succ]
              have HOn : Hid (Out w W18 v19 27 (accZ p (27 + T) 2 6) ((gz, .cells #[.int .u8 0, .int .u8 0] 5 (0, 0)) :: (gb, .cells #[.int .u8 p.bi] 5 (0, 0)) :: (gt, ot) :: (gy, oy) :: (gs, os) :: (N1, .cells (pdC p) 42 (0, 0)) :: lt)) := Lib.hid ho
              clear HO ho
              have HO := HOn
              clear HOn
              clear hS
              have hS := HO.out.tail.tail.tail.kp
              refine takeY (i := 12) (some 5) (v := v19) rfl rfl (by kernel_rfl) (by kernel_rfl) (by kernel_rfl) (fun _ _ _ h => h) (by rfl) (fun w' hS => by go_simp) hS ?_
              simp only [Act.put, List.setIfInBounds_toArray, List.set_cons_zero, List.set_cons_succ]
              clear hS
              refine wpAnyH_done (by kernel_rfl) ?_ _
              have HOn := Lib.hid (HO.out.tail.tail.tail)
              clear HO
              have HO := HOn
              clear HOn
              go_wp2_with fail
              go_meet
              case rel => exact HO
        · skip
          simp only [Act.put, List.setIfInBounds_toArray, List.set_cons_zero, List.set_cons_succ]
          have HOn := Lib.hid (Out.alloc HO.out #[.int .u8 0, .int .u8 0] 5)
          clear HO
          obtain ⟨gz, hgz⟩ : ∃ g, W10.heap.size = g := ⟨_, rfl⟩
          rw [hgz] at HOn ⊢
          generalize hW11 : W10.alloc (.cells #[.int .u8 0, .int .u8 0] 5) = W11 at HOn ⊢
          clear hW11 hgz
          have HO := HOn
          clear HOn
          clear hS
          have hS := HO.out.tail.kp
          refine wpAnyH_ready (show Region.ready _ _ _ = [4, 10] from by kernel_rfl) (by simp) (consCE (i := 4) (some 95) 94 #[.int .u64 (p.sq : Int), .int .i64 4] (R := fun v w' => ∃ g c, v = .slice (some ⟨g, 0, none⟩) 4 c ∧ W11.heap.size ≤ g ∧ Own8 w' g 4 c (putZ p.sq 4) ∧ Below W11.heap.size W11 w') rfl rfl (by rfl) (by clear hS HO; go_simp) ((bytes_any p.sq 4 W11 (by have := HP.out.2.2.2.1; omega) (by decide) (by decide)).mono fun e w' h => by obtain ⟨g, h1, h2, h3, h4⟩ := h; exact ⟨_, h1, g, 4, rfl, h2, h3, h4⟩) (fun v w' h => by obtain ⟨_, _, _, _, _, h4⟩ := h; exact hS.below h4) ?_ (consVW (i := 10) (some 101) (v := .slice (some ⟨W11.heap.size, 0, none⟩) 1 1) (w' := W11.alloc (.cells #[.int .u8 p.bi] 5)) rfl rfl (by rfl) (by clear hS HO; go_simp) (Out.alloc HO.out.tail _ _).tail.kp ?_ AllReadyH.nil))
          · skip
            intro vx W12 h hS2
            obtain ⟨gt, ct, rfl, hgt, hot, hb⟩ := h
            simp only [Act.put, List.setIfInBounds_toArray, List.set_cons_zero, List.set_cons_succ]
            obtain ⟨ot, hkt, hrt⟩ := own8_has hot
            have HOn := Lib.hid (HO.out.new hb hgt hkt)
            have HRt := Lib.hid hrt
            clear HO hb hgt hkt hrt hot hS2
            have HO := HOn
            clear HOn
            clear hS
            have hS := HO.out.tail.tail.kp
            refine wpAnyH_ready (show Region.ready _ _ _ = [5, 10] from by kernel_rfl) (by simp) (consOut (i := 5) (some 96) (.tmp 91) (.tmp 95) rfl rfl (by rfl) rfl rfl HO.out (some ⟨gt, 0, none⟩) 4 ct (putZ p.sq 4) rfl ((HRt.out _ HO.out.kp.head).rd) (fun e => by cases e) (by omega) ?_ (consVW (i := 10) (some 101) (v := .slice (some ⟨W12.heap.size, 0, none⟩) 1 1) (w' := W12.alloc (.cells #[.int .u8 p.bi] 5)) rfl rfl (by rfl) (by clear hS HO; go_simp) (Out.alloc HO.out.tail.tail _ _).tail.kp ?_ AllReadyH.nil))
            · skip
              intro v14 W13 ho
              refine ⟨ho.tail.tail.kp, ?_⟩
              simp only [Act.put, List.setIfInBounds_toArray, List.set_cons_zero, List.set_cons_succ]
              have HOn : Hid (Out w W13 v14 24 (accZ p (27 + T) 2 4) ((gt, ot) :: (gz, .cells #[.int .u8 0, .int .u8 0] 5 (0, 0)) :: (gy, oy) :: (gs, os) :: (N1, .cells (pdC p) 42 (0, 0)) :: lt)) := Lib.hid ho
              clear HO ho
              have HO := HOn
              clear HOn
              clear hS
              have hS := HO.out.tail.tail.kp
              refine wpAnyH_ready (show Region.ready _ _ _ = [7, 10] from by kernel_rfl) (by simp) (consOut (i := 7) (some 98) (.tmp 96) (.tmp 97) rfl rfl (by rfl) rfl rfl HO.out (some ⟨gz, 0, none⟩) 2 2 (fun _ => 0) rfl (rd_two0 HO.out.kp.tail.head) (fun e => by cases e) (by omega) ?_ (consVW (i := 10) (some 101) (v := .slice (some ⟨W13.heap.size, 0, none⟩) 1 1) (w' := W13.alloc (.cells #[.int .u8 p.bi] 5)) rfl rfl (by rfl) (by clear hS HO; go_simp) (Out.alloc HO.out.tail.tail _ _).tail.kp ?_ AllReadyH.nil))
              · skip
                intro v16 W15 ho
                refine ⟨ho.tail.tail.kp, ?_⟩
                simp only [Act.put, List.setIfInBounds_toArray, List.set_cons_zero, List.set_cons_succ]
                have HOn : Hid (Out w W15 v16 26 (accZ p (27 + T) 2 5) ((gt, ot) :: (gz, .cells #[.int .u8 0, .int .u8 0] 5 (0, 0)) :: (gy, oy) :: (gs, os) :: (N1, .cells (pdC p) 42 (0, 0)) :: lt)) := Lib.hid ho
                clear HO ho
                have HO := HOn
                clear HOn
                clear hS
                have hS := HO.out.tail.tail.kp
                refine takeV (i := 10) (some 101) (v := .slice (some ⟨W15.heap.size, 0, none⟩) 1 1) (w' := W15.alloc (.cells #[.int .u8 p.bi] 5)) rfl rfl (by kernel_rfl) (by rfl) (by clear hS HO; go_simp) (Out.alloc HO.out.tail.tail _ _).tail.kp ?_
                simp only [Act.put, List.setIfInBounds_toArray, List.set_cons_zero, List.set_cons_succ]
                have HOn := Lib.hid (Out.alloc HO.out #[.int .u8 p.bi] 5)
                clear HO
                obtain ⟨gb, hgb⟩ : ∃ g, W15.heap.size = g := ⟨_, rfl⟩
                rw [hgb] at HOn ⊢
                generalize hW17 : W15.alloc (.cells #[.int .u8 p.bi] 5) = W17 at HOn ⊢
                clear hW17 hgb
                have HO := HOn
                clear HOn
                clear hS
                have hS := HO.out.tail.tail.tail.kp
                refine takeOut (i := 11) (some 102) (.tmp 98) (.tmp 101) rfl rfl (by kernel_rfl) (by rfl) rfl rfl HO.out (some ⟨gb, 0, none⟩) 1 1 (fun _ => p.bi) rfl (rd_one HO.out.kp.head rfl HP.out.2.2.2.2.1) (fun e => by cases e) (by omega) ?_
                intro v19 W18 ho
                refine ⟨ho.tail.tail.tail.kp, ?_⟩
                simp only [Act.put, List.setIfInBounds_toArray, List.set_cons_zero, List.set_cons_succ]
                have HOn : Hid (Out w W18 v19 27 (accZ p (27 + T) 2 6) ((gb, .cells #[.int .u8 p.bi] 5 (0, 0)) :: (gt, ot) :: (gz, .cells #[.int .u8 0, .int .u8 0] 5 (0, 0)) :: (gy, oy) :: (gs, os) :: (N1, .cells (pdC p) 42 (0, 0)) :: lt)) := Lib.hid ho
                clear HO ho
                have HO := HOn
                clear HOn
                clear hS
                have hS := HO.out.tail.tail.tail.kp
                refine takeY (i := 12) (some 5) (v := v19) rfl rfl (by kernel_rfl) (by kernel_rfl) (by kernel_rfl) (fun _ _ _ h => h) (by rfl) (fun w' hS => by go_simp) hS ?_
                simp only [Act.put, List.setIfInBounds_toArray, List.set_cons_zero, List.set_cons_succ]
                clear hS
                refine wpAnyH_done (by kernel_rfl) ?_ _
                have HOn := Lib.hid (HO.out.tail.tail.tail)
                clear HO
                have HO := HOn
                clear HOn
                go_wp2_with fail
                go_meet
                case rel => exact HO
              · skip
                simp only [Act.put, List.setIfInBounds_toArray, List.set_cons_zero, List.set_cons_succ]
                have HOn := Lib.hid (Out.alloc HO.out #[.int .u8 p.bi] 5)
                clear HO
                obtain ⟨gb, hgb⟩ : ∃ g, W13.heap.size = g := ⟨_, rfl⟩
                rw [hgb] at HOn ⊢
                generalize hW15 : W13.alloc (.cells #[.int .u8 p.bi] 5) = W15 at HOn ⊢
                clear hW15 hgb
                have HO := HOn
                clear HOn
                clear hS
                have hS := HO.out.tail.tail.tail.kp
                refine takeOut (i := 7) (some 98) (.tmp 96) (.tmp 97) rfl rfl (by kernel_rfl) (by rfl) rfl rfl HO.out (some ⟨gz, 0, none⟩) 2 2 (fun _ => 0) rfl (rd_two0 HO.out.kp.tail.tail.head) (fun e => by cases e) (by omega) ?_
                intro v17 W16 ho
                refine ⟨ho.tail.tail.tail.kp, ?_⟩
                simp only [Act.put, List.setIfInBounds_toArray, List.set_cons_zero, List.set_cons_succ]
                have HOn : Hid (Out w W16 v17 26 (accZ p (27 + T) 2 5) ((gb, .cells #[.int .u8 p.bi] 5 (0, 0)) :: (gt, ot) :: (gz, .cells #[.int .u8 0, .int .u8 0] 5 (0, 0)) :: (gy, oy) :: (gs, os) :: (N1, .cells (pdC p) 42 (0, 0)) :: lt)) := Lib.hid ho
                clear HO ho
                have HO := HOn
                clear HOn
                clear hS
                have hS := HO.out.tail.tail.tail.kp
                refine takeOut (i := 11) (some 102) (.tmp 98) (.tmp 101) rfl rfl (by kernel_rfl) (by rfl) rfl rfl HO.out (some ⟨gb, 0, none⟩) 1 1 (fun _ => p.bi) rfl (rd_one HO.out.kp.head rfl HP.out.2.2.2.2.1) (fun e => by cases e) (by omega) ?_
                intro v19 W18 ho
                refine ⟨ho.tail.tail.tail.kp, ?_⟩
                simp only [Act.put, List.setIfInBounds_toArray, List.set_cons_zero, List.set_cons_succ]
                have HOn : Hid (Out w W18 v19 27 (accZ p (27 + T) 2 6) ((gb, .cells #[.int .u8 p.bi] 5 (0, 0)) :: (gt, ot) :: (gz, .cells #[.int .u8 0, .int .u8 0] 5 (0, 0)) :: (gy, oy) :: (gs, os) :: (N1, .cells (pdC p) 42 (0, 0)) :: lt)) := Lib.hid ho
                clear HO ho
                have HO := HOn
                clear HOn
                clear hS
                have hS := HO.out.tail.tail.tail.kp
                refine takeY (i := 12) (some 5) (v := v19) rfl rfl (by kernel_rfl) (by kernel_rfl) (by kernel_rfl) (fun _ _ _ h => h) (by rfl) (fun w' hS => by go_simp) hS ?_
                simp only [Act.put, List.setIfInBounds_toArray, List.set_cons_zero, List.set_cons_succ]
                clear hS
                refine wpAnyH_done (by kernel_rfl) ?_ _
                have HOn := Lib.hid (HO.out.tail.tail.tail)
                clear HO
                have HO := HOn
                clear HOn
                go_wp2_with fail
                go_meet
                case rel => exact HO
            · skip
              simp only [Act.put, List.setIfInBounds_toArray, List.set_cons_zero, List.set_cons_succ]
              have HOn := Lib.hid (Out.alloc HO.out #[.int .u8 p.bi] 5)
              clear HO
              obtain ⟨gb, hgb⟩ : ∃ g, W12.heap.size = g := ⟨_, rfl⟩
              rw [hgb] at HOn ⊢
              generalize hW13 : W12.alloc (.cells #[.int .u8 p.bi] 5) = W13 at HOn ⊢
              clear hW13 hgb
              have HO := HOn
              clear HOn
              clear hS
              have hS := HO.out.tail.tail.tail.kp
              refine takeOut (i := 5) (some 96) (.tmp 91) (.tmp 95) rfl rfl (by kernel_rfl) (by rfl) rfl rfl HO.out (some ⟨gt, 0, none⟩) 4 ct (putZ p.sq 4) rfl ((HRt.out _ HO.out.kp.tail.head).rd) (fun e => by cases e) (by omega) ?_
              intro v15 W14 ho
              refine ⟨ho.tail.tail.tail.kp, ?_⟩
              simp only [Act.put, List.setIfInBounds_toArray, List.set_cons_zero, List.set_cons_succ]
              have HOn : Hid (Out w W14 v15 24 (accZ p (27 + T) 2 4) ((gb, .cells #[.int .u8 p.bi] 5 (0, 0)) :: (gt, ot) :: (gz, .cells #[.int .u8 0, .int .u8 0] 5 (0, 0)) :: (gy, oy) :: (gs, os) :: (N1, .cells (pdC p) 42 (0, 0)) :: lt)) := Lib.hid ho
              clear HO ho
              have HO := HOn
              clear HOn
              clear hS
              have hS := HO.out.tail.tail.tail.kp
              refine takeOut (i := 7) (some 98) (.tmp 96) (.tmp 97) rfl rfl (by kernel_rfl) (by rfl) rfl rfl HO.out (some ⟨gz, 0, none⟩) 2 2 (fun _ => 0) rfl (rd_two0 HO.out.kp.tail.tail.head) (fun e => by cases e) (by omega) ?_
              intro v17 W16 ho
              refine ⟨ho.tail.tail.tail.kp, ?_⟩
              simp only [Act.put, List.setIfInBounds_toArray, List.set_cons_zero, List.set_cons_succ]
              have HOn : Hid (Out w W16 v17 26 (accZ p (27 + T) 2 5) ((gb, .cells #[.int .u8 p.bi] 5 (0, 0)) :: (gt, ot) :: (gz, .cells #[.int .u8 0, .int .u8 0] 5 (0, 0)) :: (gy, oy) :: (gs, os) :: (N1, .cells (pdC p) 42 (0, 0)) :: lt)) := Lib.hid ho
              clear HO ho
              have HO := HOn
              clear HOn
              clear hS
              have hS := HO.out.tail.tail.tail.kp
              refine takeOut (i := 11) (some 102) (.tmp 98) (.tmp 101) rfl rfl (by kernel_rfl) (by rfl) rfl rfl HO.out (some ⟨gb, 0, none⟩) 1 1 (fun _ => p.bi) rfl (rd_one HO.out.kp.head rfl HP.out.2.2.2.2.1) (fun e => by cases e) (by omega) ?_
              intro v19 W18 ho
              refine ⟨ho.tail.tail.tail.kp, ?_⟩
              simp only [Act.put, List.setIfInBounds_toArray, List.set_cons_zero, List.set_cons_succ]
              have HOn : Hid (Out w W18 v19 27 (accZ p (27 + T) 2 6) ((gb, .cells #[.int .u8 p.bi] 5 (0, 0)) :: (gt, ot) :: (gz, .cells #[.int .u8 0, .int .u8 0] 5 (0, 0)) :: (gy, oy) :: (gs, os) :: (N1, .cells (pdC p) 42 (0, 0)) :: lt)) := Lib.hid ho
              clear HO ho
              have HO := HOn
              clear HOn
              clear hS
              have hS := HO.out.tail.tail.tail.kp
              refine takeY (i := 12) (some 5) (v := v19) rfl rfl (by kernel_rfl) (by kernel_rfl) (by kernel_rfl) (fun _ _ _ h => h) (by rfl) (fun w' hS => by go_simp) hS ?_
              simp only [Act.put, List.setIfInBounds_toArray, List.set_cons_zero, List.set_cons_succ]
              clear hS
              refine wpAnyH_done (by kernel_rfl) ?_ _
              have HOn := Lib.hid (HO.out.tail.tail.tail)
              clear HO
              have HO := HOn
              clear HOn
              go_wp2_with fail
              go_meet
              case rel => exact HO
          · skip
            simp only [Act.put, List.setIfInBounds_toArray, List.set_cons_zero, List.set_cons_succ]
            have HOn := Lib.hid (Out.alloc HO.out #[.int .u8 p.bi] 5)
            clear HO
            obtain ⟨gb, hgb⟩ : ∃ g, W11.heap.size = g := ⟨_, rfl⟩
            rw [hgb] at HOn ⊢
            generalize hW12 : W11.alloc (.cells #[.int .u8 p.bi] 5) = W12 at HOn ⊢
            clear hW12 hgb
            have HO := HOn
            clear HOn
            clear hS
            have hS := HO.out.tail.tail.kp
            refine takeCE (i := 4) (some 95) 94 #[.int .u64 (p.sq : Int), .int .i64 4] (R := fun v w' => ∃ g c, v = .slice (some ⟨g, 0, none⟩) 4 c ∧ W12.heap.size ≤ g ∧ Own8 w' g 4 c (putZ p.sq 4) ∧ Below W12.heap.size W12 w') rfl rfl (by kernel_rfl) (by rfl) (by clear hS HO; go_simp) ((bytes_any p.sq 4 W12 (by have := HP.out.2.2.2.1; omega) (by decide) (by decide)).mono fun e w' h => by obtain ⟨g, h1, h2, h3, h4⟩ := h; exact ⟨_, h1, g, 4, rfl, h2, h3, h4⟩) (fun v w' h => by obtain ⟨_, _, _, _, _, h4⟩ := h; exact hS.below h4) ?_
            intro vx W13 h hS2
            obtain ⟨gt, ct, rfl, hgt, hot, hb⟩ := h
            simp only [Act.put, List.setIfInBounds_toArray, List.set_cons_zero, List.set_cons_succ]
            obtain ⟨ot, hkt, hrt⟩ := own8_has hot
            have HOn := Lib.hid (HO.out.new hb hgt hkt)
            have HRt := Lib.hid hrt
            clear HO hb hgt hkt hrt hot hS2
            have HO := HOn
            clear HOn
            clear hS
            have hS := HO.out.tail.tail.tail.kp
            refine takeOut (i := 5) (some 96) (.tmp 91) (.tmp 95) rfl rfl (by kernel_rfl) (by rfl) rfl rfl HO.out (some ⟨gt, 0, none⟩) 4 ct (putZ p.sq 4) rfl ((HRt.out _ HO.out.kp.head).rd) (fun e => by cases e) (by omega) ?_
            intro v15 W14 ho
            refine ⟨ho.tail.tail.tail.kp, ?_⟩
            simp only [Act.put, List.setIfInBounds_toArray, List.set_cons_zero, List.set_cons_succ]
            have HOn : Hid (Out w W14 v15 24 (accZ p (27 + T) 2 4) ((gt, ot) :: (gb, .cells #[.int .u8 p.bi] 5 (0, 0)) :: (gz, .cells #[.int .u8 0, .int .u8 0] 5 (0, 0)) :: (gy, oy) :: (gs, os) :: (N1, .cells (pdC p) 42 (0, 0)) :: lt)) := Lib.hid ho
            clear HO ho
            have HO := HOn
            clear HOn
            clear hS
            have hS := HO.out.tail.tail.tail.kp
            refine takeOut (i := 7) (some 98) (.tmp 96) (.tmp 97) rfl rfl (by kernel_rfl) (by rfl) rfl rfl HO.out (some ⟨gz, 0, none⟩) 2 2 (fun _ => 0) rfl (rd_two0 HO.out.kp.tail.tail.head) (fun e => by cases e) (by omega) ?_
            intro v17 W16 ho
            refine ⟨ho.tail.tail.tail.kp, ?_⟩
            simp only [Act.put, List.setIfInBounds_toArray, List.set_cons_zero, List.set_cons_succ]
            have HOn : Hid (Out w W16 v17 26 (accZ p (27 + T) 2 5) ((gt, ot) :: (gb, .cells #[.int .u8 p.bi] 5 (0, 0)) :: (gz, .cells #[.int .u8 0, .int .u8 0] 5 (0, 0)) :: (gy, oy) :: (gs, os) :: (N1, .cells (pdC p) 42 (0, 0)) :: lt)) := Lib.hid ho
            clear HO ho
            have HO := HOn
            clear HOn
            clear hS
            have hS := HO.out.tail.tail.tail.kp
            refine takeOut (i := 11) (some 102) (.tmp 98) (.tmp 101) rfl rfl (by kernel_rfl) (by rfl) rfl rfl HO.out (some ⟨gb, 0, none⟩) 1 1 (fun _ => p.bi) rfl (rd_one HO.out.kp.tail.head rfl HP.out.2.2.2.2.1) (fun e => by cases e) (by omega) ?_
            intro v19 W18 ho
            refine ⟨ho.tail.tail.tail.kp, ?_⟩
            simp only [Act.put, List.setIfInBounds_toArray, List.set_cons_zero, List.set_cons_succ]
            have HOn : Hid (Out w W18 v19 27 (accZ p (27 + T) 2 6) ((gt, ot) :: (gb, .cells #[.int .u8 p.bi] 5 (0, 0)) :: (gz, .cells #[.int .u8 0, .int .u8 0] 5 (0, 0)) :: (gy, oy) :: (gs, os) :: (N1, .cells (pdC p) 42 (0, 0)) :: lt)) := Lib.hid ho
            clear HO ho
            have HO := HOn
            clear HOn
            clear hS
            have hS := HO.out.tail.tail.tail.kp
            refine takeY (i := 12) (some 5) (v := v19) rfl rfl (by kernel_rfl) (by kernel_rfl) (by kernel_rfl) (fun _ _ _ h => h) (by rfl) (fun w' hS => by go_simp) hS ?_
            simp only [Act.put, List.setIfInBounds_toArray, List.set_cons_zero, List.set_cons_succ]
            clear hS
            refine wpAnyH_done (by kernel_rfl) ?_ _
            have HOn := Lib.hid (HO.out.tail.tail.tail)
            clear HO
            have HO := HOn
            clear HOn
            go_wp2_with fail
            go_meet
            case rel => exact HO
        · skip
          simp only [Act.put, List.setIfInBounds_toArray, List.set_cons_zero, List.set_cons_succ]
          have HOn := Lib.hid (Out.alloc HO.out #[.int .u8 p.bi] 5)
          clear HO
          obtain ⟨gb, hgb⟩ : ∃ g, W10.heap.size = g := ⟨_, rfl⟩
          rw [hgb] at HOn ⊢
          generalize hW11 : W10.alloc (.cells #[.int .u8 p.bi] 5) = W11 at HOn ⊢
          clear hW11 hgb
          have HO := HOn
          clear HOn
          clear hS
          have hS := HO.out.tail.kp
          refine wpAnyH_ready (show Region.ready _ _ _ = [4, 6] from by kernel_rfl) (by simp) (consCE (i := 4) (some 95) 94 #[.int .u64 (p.sq : Int), .int .i64 4] (R := fun v w' => ∃ g c, v = .slice (some ⟨g, 0, none⟩) 4 c ∧ W11.heap.size ≤ g ∧ Own8 w' g 4 c (putZ p.sq 4) ∧ Below W11.heap.size W11 w') rfl rfl (by rfl) (by clear hS HO; go_simp) ((bytes_any p.sq 4 W11 (by have := HP.out.2.2.2.1; omega) (by decide) (by decide)).mono fun e w' h => by obtain ⟨g, h1, h2, h3, h4⟩ := h; exact ⟨_, h1, g, 4, rfl, h2, h3, h4⟩) (fun v w' h => by obtain ⟨_, _, _, _, _, h4⟩ := h; exact hS.below h4) ?_ (consVW (i := 6) (some 97) (v := .slice (some ⟨W11.heap.size, 0, none⟩) 2 2) (w' := W11.alloc (.cells #[.int .u8 0, .int .u8 0] 5)) rfl rfl (by rfl) (by clear hS HO; go_simp) (Out.alloc HO.out.tail _ _).tail.kp ?_ AllReadyH.nil))
          · skip
            intro vx W12 h hS2
            obtain ⟨gt, ct, rfl, hgt, hot, hb⟩ := h
            simp only [Act.put, List.setIfInBounds_toArray, List.set_cons_zero, List.set_cons_succ]
            obtain ⟨ot, hkt, hrt⟩ := own8_has hot
            have HOn := Lib.hid (HO.out.new hb hgt hkt)
            have HRt := Lib.hid hrt
            clear HO hb hgt hkt hrt hot hS2
            have HO := HOn
            clear HOn
            clear hS
            have hS := HO.out.tail.tail.kp
            refine wpAnyH_ready (show Region.ready _ _ _ = [5, 6] from by kernel_rfl) (by simp) (consOut (i := 5) (some 96) (.tmp 91) (.tmp 95) rfl rfl (by rfl) rfl rfl HO.out (some ⟨gt, 0, none⟩) 4 ct (putZ p.sq 4) rfl ((HRt.out _ HO.out.kp.head).rd) (fun e => by cases e) (by omega) ?_ (consVW (i := 6) (some 97) (v := .slice (some ⟨W12.heap.size, 0, none⟩) 2 2) (w' := W12.alloc (.cells #[.int .u8 0, .int .u8 0] 5)) rfl rfl (by rfl) (by clear hS HO; go_simp) (Out.alloc HO.out.tail.tail _ _).tail.kp ?_ AllReadyH.nil))
            · skip
              intro v14 W13 ho
              refine ⟨ho.tail.tail.kp, ?_⟩
              simp only [Act.put, List.setIfInBounds_toArray, List.set_cons_zero, List.set_cons_succ]
              have HOn : Hid (Out w W13 v14 24 (accZ p (27 + T) 2 4) ((gt, ot) :: (gb, .cells #[.int .u8 p.bi] 5 (0, 0)) :: (gy, oy) :: (gs, os) :: (N1, .cells (pdC p) 42 (0, 0)) :: lt)) := Lib.hid ho
              clear HO ho
              have HO := HOn
              clear HOn
              clear hS
              have hS := HO.out.tail.tail.kp
              refine takeV (i := 6) (some 97) (v := .slice (some ⟨W13.heap.size, 0, none⟩) 2 2) (w' := W13.alloc (.cells #[.int .u8 0, .int .u8 0] 5)) rfl rfl (by kernel_rfl) (by rfl) (by clear hS HO; go_simp) (Out.alloc HO.out.tail.tail _ _).tail.kp ?_
              simp only [Act.put, List.setIfInBounds_toArray, List.set_cons_zero, List.set_cons_succ]
              have HOn := Lib.hid (Out.alloc HO.out #[.int .u8 0, .int .u8 0] 5)
              clear HO
              obtain ⟨gz, hgz⟩ : ∃ g, W13.heap.size = g := ⟨_, rfl⟩
              rw [hgz] at HOn ⊢
              generalize hW15 : W13.alloc (.cells #[.int .u8 0, .int .u8 0] 5) = W15 at HOn ⊢
              clear hW15 hgz
              have HO := HOn
              clear HOn
              clear hS
              have hS := HO.out.tail.tail.tail.kp
              refine takeOut (i := 7) (some 98) (.tmp 96) (.tmp 97) rfl rfl (by kernel_rfl) (by rfl) rfl rfl HO.out (some ⟨gz, 0, none⟩) 2 2 (fun _ => 0) rfl (rd_two0 HO.out.kp.head) (fun e => by cases e) (by omega) ?_
              intro v17 W16 ho
              refine ⟨ho.tail.tail.tail.kp, ?_⟩
              simp only [Act.put, List.setIfInBounds_toArray, List.set_cons_zero, List.set_cons_succ]
              have HOn : Hid (Out w W16 v17 26 (accZ p (27 + T) 2 5) ((gz, .cells #[.int .u8 0, .int .u8 0] 5 (0, 0)) :: (gt, ot) :: (gb, .cells #[.int .u8 p.bi] 5 (0, 0)) :: (gy, oy) :: (gs, os) :: (N1, .cells (pdC p) 42 (0, 0)) :: lt)) := Lib.hid ho
              clear HO ho
              have HO := HOn
              clear HOn
              clear hS
              have hS := HO.out.tail.tail.tail.kp
              refine takeOut (i := 11) (some 102) (.tmp 98) (.tmp 101) rfl rfl (by kernel_rfl) (by rfl) rfl rfl HO.out (some ⟨gb, 0, none⟩) 1 1 (fun _ => p.bi) rfl (rd_one HO.out.kp.tail.tail.head rfl HP.out.2.2.2.2.1) (fun e => by cases e) (by omega) ?_
              intro v19 W18 ho
              refine ⟨ho.tail.tail.tail.kp, ?_⟩
              simp only [Act.put, List.setIfInBounds_toArray, List.set_cons_zero, List.set_cons_succ]
              have HOn : Hid (Out w W18 v19 27 (accZ p (27 + T) 2 6) ((gz, .cells #[.int .u8 0, .int .u8 0] 5 (0, 0)) :: (gt, ot) :: (gb, .cells #[.int .u8 p.bi] 5 (0, 0)) :: (gy, oy) :: (gs, os) :: (N1, .cells (pdC p) 42 (0, 0)) :: lt)) := Lib.hid ho
              clear HO ho
              have HO := HOn
              clear HOn
              clear hS
              have hS := HO.out.tail.tail.tail.kp
              refine takeY (i := 12) (some 5) (v := v19) rfl rfl (by kernel_rfl) (by kernel_rfl) (by kernel_rfl) (fun _ _ _ h => h) (by rfl) (fun w' hS => by go_simp) hS ?_
              simp only [Act.put, List.setIfInBounds_toArray, List.set_cons_zero, List.set_cons_succ]
              clear hS
              refine wpAnyH_done (by kernel_rfl) ?_ _
              have HOn := Lib.hid (HO.out.tail.tail.tail)
              clear HO
              have HO := HOn
              clear HOn
              go_wp2_with fail
              go_meet
              case rel => exact HO
            · skip
              simp only [Act.put, List.setIfInBounds_toArray, List.set_cons_zero, List.set_cons_succ]
              have HOn := Lib.hid (Out.alloc HO.out #[.int .u8 0, .int .u8 0] 5)
              clear HO
              obtain ⟨gz, hgz⟩ : ∃ g, W12.heap.size = g := ⟨_, rfl⟩
              rw [hgz] at HOn ⊢
              generalize hW13 : W12.alloc (.cells #[.int .u8 0, .int .u8 0] 5) = W13 at HOn ⊢
              clear hW13 hgz
              have HO := HOn
              clear HOn
              clear hS
              have hS := HO.out.tail.tail.tail.kp
              refine takeOut (i := 5) (some 96) (.tmp 91) (.tmp 95) rfl rfl (by kernel_rfl) (by rfl) rfl rfl HO.out (some ⟨gt, 0, none⟩) 4 ct (putZ p.sq 4) rfl ((HRt.out _ HO.out.kp.tail.head).rd) (fun e => by cases e) (by omega) ?_
              intro v15 W14 ho
              refine ⟨ho.tail.tail.tail.kp, ?_⟩
              simp only [Act.put, List.setIfInBounds_toArray, List.set_cons_zero, List.set_cons_succ]
              have HOn : Hid (Out w W14 v15 24 (accZ p (27 + T) 2 4) ((gz, .cells #[.int .u8 0, .int .u8 0] 5 (0, 0)) :: (gt, ot) :: (gb, .cells #[.int .u8 p.bi] 5 (0, 0)) :: (gy, oy) :: (gs, os) :: (N1, .cells (pdC p) 42 (0, 0)) :: lt)) := Lib.hid ho
              clear HO ho
              have HO := HOn
              clear HOn
              clear hS
              have hS := HO.out.tail.tail.tail.kp
              refine takeOut (i := 7) (some 98) (.tmp 96) (.tmp 97) rfl rfl (by kernel_rfl) (by rfl) rfl rfl HO.out (some ⟨gz, 0, none⟩) 2 2 (fun _ => 0) rfl (rd_two0 HO.out.kp.head) (fun e => by cases e) (by omega) ?_
              intro v17 W16 ho
              refine ⟨ho.tail.tail.tail.kp, ?_⟩
              simp only [Act.put, List.setIfInBounds_toArray, List.set_cons_zero, List.set_cons_succ]
              have HOn : Hid (Out w W16 v17 26 (accZ p (27 + T) 2 5) ((gz, .cells #[.int .u8 0, .int .u8 0] 5 (0, 0)) :: (gt, ot) :: (gb, .cells #[.int .u8 p.bi] 5 (0, 0)) :: (gy, oy) :: (gs, os) :: (N1, .cells (pdC p) 42 (0, 0)) :: lt)) := Lib.hid ho
              clear HO ho
              have HO := HOn
              clear HOn
              clear hS
              have hS := HO.out.tail.tail.tail.kp
              refine takeOut (i := 11) (some 102) (.tmp 98) (.tmp 101) rfl rfl (by kernel_rfl) (by rfl) rfl rfl HO.out (some ⟨gb, 0, none⟩) 1 1 (fun _ => p.bi) rfl (rd_one HO.out.kp.tail.tail.head rfl HP.out.2.2.2.2.1) (fun e => by cases e) (by omega) ?_
              intro v19 W18 ho
              refine ⟨ho.tail.tail.tail.kp, ?_⟩
              simp only [Act.put, List.setIfInBounds_toArray, List.set_cons_zero, List.set_cons_succ]
              have HOn : Hid (Out w W18 v19 27 (accZ p (27 + T) 2 6) ((gz, .cells #[.int .u8 0, .int .u8 0] 5 (0, 0)) :: (gt, ot) :: (gb, .cells #[.int .u8 p.bi] 5 (0, 0)) :: (gy, oy) :: (gs, os) :: (N1, .cells (pdC p) 42 (0, 0)) :: lt)) := Lib.hid ho
              clear HO ho
              have HO := HOn
              clear HOn
              clear hS
              have hS := HO.out.tail.tail.tail.kp
              refine takeY (i := 12) (some 5) (v := v19) rfl rfl (by kernel_rfl) (by kernel_rfl) (by kernel_rfl) (fun _ _ _ h => h) (by rfl) (fun w' hS => by go_simp) hS ?_
              simp only [Act.put, List.setIfInBounds_toArray, List.set_cons_zero, List.set_cons_succ]
              clear hS
              refine wpAnyH_done (by kernel_rfl) ?_ _
              have HOn := Lib.hid (HO.out.tail.tail.tail)
              clear HO
              have HO := HOn
              clear HOn
              go_wp2_with fail
              go_meet
              case rel => exact HO
          · skip
            simp only [Act.put, List.setIfInBounds_toArray, List.set_cons_zero, List.set_cons_succ]
            have HOn := Lib.hid (Out.alloc HO.out #[.int .u8 0, .int .u8 0] 5)
            clear HO
            obtain ⟨gz, hgz⟩ : ∃ g, W11.heap.size = g := ⟨_, rfl⟩
            rw [hgz] at HOn ⊢
            generalize hW12 : W11.alloc (.cells #[.int .u8 0, .int .u8 0] 5) = W12 at HOn ⊢
            clear hW12 hgz
            have HO := HOn
            clear HOn
            clear hS
            have hS := HO.out.tail.tail.kp
            refine takeCE (i := 4) (some 95) 94 #[.int .u64 (p.sq : Int), .int .i64 4] (R := fun v w' => ∃ g c, v = .slice (some ⟨g, 0, none⟩) 4 c ∧ W12.heap.size ≤ g ∧ Own8 w' g 4 c (putZ p.sq 4) ∧ Below W12.heap.size W12 w') rfl rfl (by kernel_rfl) (by rfl) (by clear hS HO; go_simp) ((bytes_any p.sq 4 W12 (by have := HP.out.2.2.2.1; omega) (by decide) (by decide)).mono fun e w' h => by obtain ⟨g, h1, h2, h3, h4⟩ := h; exact ⟨_, h1, g, 4, rfl, h2, h3, h4⟩) (fun v w' h => by obtain ⟨_, _, _, _, _, h4⟩ := h; exact hS.below h4) ?_
            intro vx W13 h hS2
            obtain ⟨gt, ct, rfl, hgt, hot, hb⟩ := h
            simp only [Act.put, List.setIfInBounds_toArray, List.set_cons_zero, List.set_cons_succ]
            obtain ⟨ot, hkt, hrt⟩ := own8_has hot
            have HOn := Lib.hid (HO.out.new hb hgt hkt)
            have HRt := Lib.hid hrt
            clear HO hb hgt hkt hrt hot hS2
            have HO := HOn
            clear HOn
            clear hS
            have hS := HO.out.tail.tail.tail.kp
            refine takeOut (i := 5) (some 96) (.tmp 91) (.tmp 95) rfl rfl (by kernel_rfl) (by rfl) rfl rfl HO.out (some ⟨gt, 0, none⟩) 4 ct (putZ p.sq 4) rfl ((HRt.out _ HO.out.kp.head).rd) (fun e => by cases e) (by omega) ?_
            intro v15 W14 ho
            refine ⟨ho.tail.tail.tail.kp, ?_⟩
            simp only [Act.put, List.setIfInBounds_toArray, List.set_cons_zero, List.set_cons_succ]
            have HOn : Hid (Out w W14 v15 24 (accZ p (27 + T) 2 4) ((gt, ot) :: (gz, .cells #[.int .u8 0, .int .u8 0] 5 (0, 0)) :: (gb, .cells #[.int .u8 p.bi] 5 (0, 0)) :: (gy, oy) :: (gs, os) :: (N1, .cells (pdC p) 42 (0, 0)) :: lt)) := Lib.hid ho
            clear HO ho
            have HO := HOn
            clear HOn
            clear hS
            have hS := HO.out.tail.tail.tail.kp
            refine takeOut (i := 7) (some 98) (.tmp 96) (.tmp 97) rfl rfl (by kernel_rfl) (by rfl) rfl rfl HO.out (some ⟨gz, 0, none⟩) 2 2 (fun _ => 0) rfl (rd_two0 HO.out.kp.tail.head) (fun e => by cases e) (by omega) ?_
            intro v17 W16 ho
            refine ⟨ho.tail.tail.tail.kp, ?_⟩
            simp only [Act.put, List.setIfInBounds_toArray, List.set_cons_zero, List.set_cons_succ]
            have HOn : Hid (Out w W16 v17 26 (accZ p (27 + T) 2 5) ((gt, ot) :: (gz, .cells #[.int .u8 0, .int .u8 0] 5 (0, 0)) :: (gb, .cells #[.int .u8 p.bi] 5 (0, 0)) :: (gy, oy) :: (gs, os) :: (N1, .cells (pdC p) 42 (0, 0)) :: lt)) := Lib.hid ho
            clear HO ho
            have HO := HOn
            clear HOn
            clear hS
            have hS := HO.out.tail.tail.tail.kp
            refine takeOut (i := 11) (some 102) (.tmp 98) (.tmp 101) rfl rfl (by kernel_rfl) (by rfl) rfl rfl HO.out (some ⟨gb, 0, none⟩) 1 1 (fun _ => p.bi) rfl (rd_one HO.out.kp.tail.tail.head rfl HP.out.2.2.2.2.1) (fun e => by cases e) (by omega) ?_
            intro v19 W18 ho
            refine ⟨ho.tail.tail.tail.kp, ?_⟩
            simp only [Act.put, List.setIfInBounds_toArray, List.set_cons_zero, List.set_cons_succ]
            have HOn : Hid (Out w W18 v19 27 (accZ p (27 + T) 2 6) ((gt, ot) :: (gz, .cells #[.int .u8 0, .int .u8 0] 5 (0, 0)) :: (gb, .cells #[.int .u8 p.bi] 5 (0, 0)) :: (gy, oy) :: (gs, os) :: (N1, .cells (pdC p) 42 (0, 0)) :: lt)) := Lib.hid ho
            clear HO ho
            have HO := HOn
            clear HOn
            clear hS
            have hS := HO.out.tail.tail.tail.kp
            refine takeY (i := 12) (some 5) (v := v19) rfl rfl (by kernel_rfl) (by kernel_rfl) (by kernel_rfl) (fun _ _ _ h => h) (by rfl) (fun w' hS => by go_simp) hS ?_
            simp only [Act.put, List.setIfInBounds_toArray, List.set_cons_zero, List.set_cons_succ]
            clear hS
            refine wpAnyH_done (by kernel_rfl) ?_ _
            have HOn := Lib.hid (HO.out.tail.tail.tail)
            clear HO
            have HO := HOn
            clear HOn
            go_wp2_with fail
            go_meet
            case rel => exact HO
  case rest =>
  clear HO c0
  have HO := hcut
  clear hcut
  go_wp2_with (at_builtin; refine wpList_out rfl (.tmp 131) (.tmp 132) rfl rfl HO.out TA T Tc (J L p.m) rfl (HTR.out _ HO.out.kp.tail.tail.tail) HTN.out (by omega) ?_; intro v9 w9 ho9; have HO9 := Lib.hid ho9; clear ho9 HO; refine Hid.out ?_)
  refine Lib.hid ?_
  have c0 : w9.cell? ⟨N1, 0, none⟩ = some (.int .u8 K) := (cell_of_row w9 _ 0 _ _ _ HO9.out.kp.tail.tail.head).trans a0
  have HO : Hid (Out w w9 v9 (27 + T) (wZ p 2 L) ((gy, oy) :: (gs, os) :: (N1, .cells (pdC p) 42 (0, 0)) :: lt)) := Lib.hid (by rw [← HWZ.out]; exact HO9.out)
  clear HO9
  obtain ⟨go, co, rfl, hgo, hoo⟩ := own_ofB HO.out.1 (by omega)
  have HOO := Lib.hid hoo
  have hcap := hoo.caps
  have HBB := Lib.hid HO.out.2.1
  clear hoo HO
  go_wp2_with fail
  refine (HLS.out _).mono ?_
  rintro e wx ⟨rfl, rfl⟩
  have hq1 : 12 ≤ co := by omega
  have hN2 := HN.out
  go_wp2_with fail
  refine (check_ok go 12 (27 + T - 12) (co - 12) (fun j => wZ p 2 L (12 + j)) 12 _ (Row8.shift HOO.out.row 12 _ (by omega)) (by omega) (by omega) (by omega)).mono ?_
  rintro e wx ⟨rfl, rfl⟩
  obtain ⟨x, hx⟩ : ∃ x, chkX (fun j => wZ p 2 L (12 + j)) 12 (27 + T - 12) = x := ⟨_, rfl⟩
  obtain ⟨y, hy⟩ : ∃ x, chkY (fun j => wZ p 2 L (12 + j)) 12 (27 + T - 12) = x := ⟨_, rfl⟩
  have hb := chk_bd (fun j => wZ p 2 L (12 + j)) 12 (27 + T - 12)
  rw [hx, hy] at hb
  have HX := Lib.hid hx
  have HY := Lib.hid hy
  rw [show ((12 : Int).toNat) = 12 from rfl, hx, hy]
  clear hx hy
  obtain ⟨_, _, _, _, hb1, hb2, hb3, hb4⟩ := hb
  have c24 := own_at HOO.out 24 (by omega)
  have c25 := own_at HOO.out 25 (by omega)
  have f24 := Own8.free HOO.out
  have wx1 : IntKind.u8.wrap x = x := by simp [IntKind.wrap, IntKind.signed, IntKind.bits]; omega
  have wy1 : IntKind.u8.wrap y = y := by simp [IntKind.wrap, IntKind.signed, IntKind.bits]; omega
  go_wp2_with fail
  go_ret
  exact ⟨_, _, rfl, hgo, by rw [HPZ.out]; exact sg_own HOO.out (by omega) x y HX.out HY.out (by omega) (by omega), (HBB.out.setCell (p := ⟨go, 24, none⟩) hgo _).setCell (p := ⟨go, 25, none⟩) hgo _⟩
end Go.Proofs.YtccoicjmmeoggaaDoor

/- The document's DocWrite: what it answers, for every packet. Each theorem states its conditions. -/
namespace Go.Proofs.YtccoicjmmeoggaaDoor
open Go.RowKit
set_option linter.unusedVariables false

theorem cls_cases (k : Int) (q : Nat) (h : cls k = q) (hq : q ≤ 4) : (k = 17 ∧ q = 0) ∨ (k = 15 ∧ q = 1) ∨ (k = 16 ∧ q = 1) ∨ (k = 18 ∧ q = 2) ∨ (k = 20 ∧ q = 2) ∨ (k = 24 ∧ q = 3) ∨ (k = 25 ∧ q = 3) ∨ (k = 26 ∧ q = 4) ∨ (k = 27 ∧ q = 4) := by
  unfold cls at h
  (repeat' split at h) <;> omega
/-- the document's Write of a packet whose fields may stand so -/
theorem refWrite_any (p : Pd) (q : Nat) (hk : cls p.kd = q) (hq : q ≤ 4) (hp : PdOk p) (hf : fitP p q = true) (L : Nat → It) (hm : ∀ k, k < p.m → ¬ bad L k) (hn : hdN q + sz L p.m ≤ 1492) (w : World) (hin : PdIn w p L) :
    Calls Tryd.prog 69 #[.agg (pdC p)] w (RwP w (hdN q + sz L p.m) (pdZ p q L)) := by
  rcases cls_cases p.kd q hk hq with ⟨h, rfl⟩ | ⟨h, rfl⟩ | ⟨h, rfl⟩ | ⟨h, rfl⟩ | ⟨h, rfl⟩ | ⟨h, rfl⟩ | ⟨h, rfl⟩ | ⟨h, rfl⟩ | ⟨h, rfl⟩
  · exact refWrite_17 p h hp hf L hm hn w hin
  · exact refWrite_15 p h hp hf L hm hn w hin
  · exact refWrite_16 p h hp hf L hm hn w hin
  · exact refWrite_K p 18 (.inl rfl) h hp hf L hm hn w hin
  · exact refWrite_K p 20 (.inr rfl) h hp hf L hm hn w hin
  · exact refWrite_24 p h hp hf L hm hn w hin
  · exact refWrite_25 p h hp hf L hm hn w hin
  · exact refWrite_26 p h hp hf L hm hn w hin
  · exact refWrite_27 p h hp hf L hm hn w hin
/-- the document's Fields -/
theorem refFields_any (p : Pd) (q : Nat) (hk : cls p.kd = q) (hq : q ≤ 4) (hp : PdOk p) (w : World) :
    Calls Tryd.prog 66 #[.agg (pdC p)] w fun e w' => e = .returned (.bool (fitP p q)) ∧ Below w.heap.size w w' := by
  have h0 := hp.1.2.1.1
  rcases cls_cases p.kd q hk hq with ⟨h, rfl⟩ | ⟨h, rfl⟩ | ⟨h, rfl⟩ | ⟨h, rfl⟩ | ⟨h, rfl⟩ | ⟨h, rfl⟩ | ⟨h, rfl⟩ | ⟨h, rfl⟩ | ⟨h, rfl⟩
  · refine fields_17 p h _ ?_ w
    rw [Bool.eq_iff_iff]
    simp [fitP, fitsTo, flC, fAt, fitB]
    omega
  · refine fields_15 p h _ ?_ w
    rw [Bool.eq_iff_iff]
    simp [fitP, fitsTo, flC, fAt, fitB]
    omega
  · refine fields_16 p h _ ?_ w
    rw [Bool.eq_iff_iff]
    simp [fitP, fitsTo, flC, fAt, fitB]
    omega
  · refine fields_18 p h _ ?_ w
    rw [Bool.eq_iff_iff]
    simp [fitP, fitsTo, flC, fAt, fitB]
  · refine fields_20 p h _ ?_ w
    rw [Bool.eq_iff_iff]
    simp [fitP, fitsTo, flC, fAt, fitB]
  · exact fields_24 p h _ (by simp [fitP, fitsTo, flC, fAt, fitB]) w
  · exact fields_25 p h _ (by simp [fitP, fitsTo, flC, fAt, fitB]) w
  · exact fields_26 p h _ (by simp [fitP, fitsTo, flC, fAt, fitB]) w
  · exact fields_27 p h _ (by simp [fitP, fitsTo, flC, fAt, fitB]) w
end Go.Proofs.YtccoicjmmeoggaaDoor

/- The document's Twin of a list. Each theorem states its conditions. -/
namespace Go.Proofs.YtccoicjmmeoggaaDoor
open Go.RowKit
set_option linter.unusedVariables false

/-- the same item, its bytes elsewhere -/
def Alike (t t' : It) : Prop := t.ty = t'.ty ∧ t.n = t'.n ∧ t.z = t'.z
end Go.Proofs.YtccoicjmmeoggaaDoor

/- Lists as bytes and back. Each theorem states its conditions. -/
namespace Go.Proofs.YtccoicjmmeoggaaDoor
open Go.RowKit
set_option linter.unusedVariables false

end Go.Proofs.YtccoicjmmeoggaaDoor

/- Check bytes that are laid are right there; a byte that is turned is seen. Plain facts, and what two stores leave. Each theorem states its conditions. -/
namespace Go.Proofs.YtccoicjmmeoggaaDoor
open Go.RowKit
set_option linter.unusedVariables false

theorem sumA_congr (z z' : Nat → Int) (s k : Nat) (h : ∀ j, j < k → j ≠ s → j ≠ s + 1 → z j = z' j) : sumA z s k = sumA z' s k := by
  induction k with
  | zero => rfl
  | succ k ih =>
    have := ih fun j hj => h j (by omega)
    by_cases hk : k = s ∨ k = s + 1
    · rw [sumA_skip _ _ _ hk, sumA_skip _ _ _ hk, this]
    · rw [sumA_take _ _ _ hk, sumA_take _ _ _ hk, this, h k (by omega) (by omega) (by omega)]
theorem sumB_congr (z z' : Nat → Int) (s n k : Nat) (h : ∀ j, j < k → j ≠ s → j ≠ s + 1 → z j = z' j) : sumB z s n k = sumB z' s n k := by
  induction k with
  | zero => rfl
  | succ k ih =>
    have := ih fun j hj => h j (by omega)
    by_cases hk : k = s ∨ k = s + 1
    · rw [sumB_skip _ _ _ _ hk, sumB_skip _ _ _ _ hk, this]
    · rw [sumB_take _ _ _ _ hk, sumB_take _ _ _ _ hk, this, h k (by omega) (by omega) (by omega)]
theorem chkX_congr (z z' : Nat → Int) (s n : Nat) (h : ∀ j, j < n → j ≠ s → j ≠ s + 1 → z j = z' j) : chkX z s n = chkX z' s n := by
  unfold chkX; rw [sumA_congr z z' s n h, sumB_congr z z' s n n h]
theorem chkY_congr (z z' : Nat → Int) (s n : Nat) (h : ∀ j, j < n → j ≠ s → j ≠ s + 1 → z j = z' j) : chkY z s n = chkY z' s n := by
  unfold chkY; rw [sumA_congr z z' s n h, chkX_congr z z' s n h]
section
variable {w w0 : World} {g n cap s : Nat} {z : Nat → Int}
theorem Own8.at_ (h : Own8 w g n cap z) (j : Nat) (hj : j < n) : w.cell? ⟨g, j, none⟩ = some (.int .u8 (z j)) := by
  have := h.row.2.1 j hj
  rwa [Nat.zero_add] at this
end
end Go.Proofs.YtccoicjmmeoggaaDoor

/- Cells that came in as an argument. Each theorem states its conditions. -/
namespace Go.Proofs.YtccoicjmmeoggaaDoor
open Go.RowKit Go.ChangeShapes Go.WideShapes
set_option linter.unusedVariables false

theorem dnumZ_congr (z z' : Nat → Int) (k : Nat) (h : ∀ j, j < k → z j = z' j) : numZ z 0 k = numZ z' 0 k := by
  induction k with
  | zero => rfl
  | succ k ih =>
    show numZ z 0 k * 256 + z (0 + k) = numZ z' 0 k * 256 + z' (0 + k)
    rw [ih fun j hj => h j (by omega), Nat.zero_add, h k (by omega)]
section
variable {H : Type} {enc : TypeId × Value → H} {w : World} {base : Nat} {spare : Nat → Bool} {held : Bool} {m : Nat} {cs : List Value} {x : DataW H × List MemPlace}
end
end Go.Proofs.YtccoicjmmeoggaaDoor

/- The bytes of a packet, read again. Each theorem states its conditions. -/
namespace Go.Proofs.YtccoicjmmeoggaaDoor
open Go.RowKit
set_option linter.unusedVariables false

theorem accZ_old (p : Pd) (W q k k' : Nat) (h : k ≤ k') : ∀ j, j < accN q k → accZ p W q k' j = accZ p W q k j := by
  induction k' with
  | zero => obtain rfl : k = 0 := by omega
            intro j _; rfl
  | succ k' ih =>
    by_cases e : k = k' + 1
    · subst e; intro j _; rfl
    · intro j hj
      have := accN_mono q k k' (by omega)
      simp only [accZ]
      unfold cat
      rw [if_pos (by omega)]
      exact ih (by omega) j hj
theorem acc_at (p : Pd) (W q i j : Nat) (hi : i < (flC q).length) (hj : j < fsz (fAt q i)) : accZ p W q (flC q).length (accN q i + j) = fZ p W (fAt q i) j := by
  rw [accZ_old p W q (i + 1) _ (by omega) _ (by simp only [accN]; omega)]
  simp only [accZ]
  unfold cat
  rw [if_neg (by omega), Nat.add_sub_cancel_left]
theorem wZ_lo (p : Pd) (q : Nat) (L : Nat → It) (j : Nat) (h : j < hdN q) : wZ p q L j = accZ p (hdN q + sz L p.m) q (flC q).length j := by
  unfold wZ cat; rw [if_pos h]
theorem wZ_hi (p : Pd) (q : Nat) (L : Nat → It) (j : Nat) : wZ p q L (hdN q + j) = J L p.m j := by
  unfold wZ cat; rw [if_neg (by omega), Nat.add_sub_cancel_left]
theorem pdZ_far (p : Pd) (q : Nat) (L : Nat → It) (j : Nat) (h : q = 2 → j ≠ 24 ∧ j ≠ 25) : pdZ p q L j = wZ p q L j := by
  unfold pdZ
  by_cases e : q = 2
  · rw [if_pos e]
    unfold sgZ
    rw [if_neg (h e).1, if_neg (h e).2]
  · rw [if_neg e]
theorem pd_field (p : Pd) (q : Nat) (L : Nat → It) (i j : Nat) (hi : i < (flC q).length) (hj : j < fsz (fAt q i)) (h11 : fAt q i ≠ 11) : pdZ p q L (accN q i + j) = fZ p (hdN q + sz L p.m) (fAt q i) j := by
  have hh := accN_hd q i hi
  rw [pdZ_far, wZ_lo _ _ _ _ (by omega), acc_at _ _ _ _ _ hi hj]
  intro e
  subst e
  have hi' : i < 6 := hi
  rcases (by omega : i = 0 ∨ i = 1 ∨ i = 2 ∨ i = 3 ∨ i = 4 ∨ i = 5) with rfl | rfl | rfl | rfl | rfl | rfl
  · have : j < 2 := hj
    show 8 + j ≠ 24 ∧ 8 + j ≠ 25; omega
  · have : j < 2 := hj
    show 10 + j ≠ 24 ∧ 10 + j ≠ 25; omega
  · have : j < 8 := hj
    show 12 + j ≠ 24 ∧ 12 + j ≠ 25; omega
  · have : j < 4 := hj
    show 20 + j ≠ 24 ∧ 20 + j ≠ 25; omega
  · exact absurd rfl h11
  · have : j < 1 := hj
    show 26 + j ≠ 24 ∧ 26 + j ≠ 25; omega
theorem pd_head (p : Pd) (q : Nat) (L : Nat → It) (hq : q ≤ 4) (j : Nat) (hj : j < 8) : pdZ p q L j = headZ p.kd (hdN q) j := by
  have hh := hdN_bd q hq
  rw [pdZ_far _ _ _ _ (fun _ => by omega), wZ_lo _ _ _ _ (by omega), accZ_old p _ q 0 _ (Nat.zero_le _) j hj]
  rfl
theorem pd_tail (p : Pd) (q : Nat) (L : Nat → It) (hq : q ≤ 4) (j : Nat) : pdZ p q L (hdN q + j) = J L p.m j := by
  rw [pdZ_far, wZ_hi]
  intro e
  subst e
  show 27 + j ≠ 24 ∧ 27 + j ≠ 25
  omega
theorem told_pd (p : Pd) (q : Nat) (L : Nat → It) (hn : hdN q + sz L p.m ≤ 1492) (i : Nat) (hi : i < (flC q).length) (h4 : fAt q i = 4) : toldN q (pdZ p q L) i = hdN q + sz L p.m := by
  unfold toldN
  rw [dnumZ_congr _ (putZ (hdN q + sz L p.m) 2) 2 (fun j hj => by rw [pd_field p q L i j hi (by rw [h4]; exact hj) (by rw [h4]; decide), h4]; rfl), num_put, Int.toNat_natCast]
  exact Nat.mod_eq_of_lt (by omega)
end Go.Proofs.YtccoicjmmeoggaaDoor

/- pdu.Read, all ways. Each theorem states its conditions. -/
namespace Go.Proofs.YtccoicjmmeoggaaDoor
open Go.RowKit
set_option linter.unusedVariables false

/-- the bytes are a packet of m TLVs -/
def GoodZ (z : Nat → Int) (n m : Nat) : Prop := FormOk z n ∧ fitP (rdP (cls (z 4)) z) (cls (z 4)) = true ∧ Ends (tlZ (cls (z 4)) z) (n - hdN (cls (z 4))) m ∧ pos (tlZ (cls (z 4)) z) m = n - hdN (cls (z 4)) ∧ (cls (z 4) = 2 → rightB (fun j => z (12 + j)) 12 (n - 12) = true)
theorem read_good (A : Option Addr) (n c : Nat) (z : Nat → Int) (w : World) (hr : Rd w A n z) (hc : n ≤ c) (hcm : c ≤ maxLen) (hn2 : n ≤ 1492) (m : Nat) (hg : GoodZ z n m) :
    Calls Tryd.prog 45 #[.slice A n c] w (RdOk w (cls (z 4)) z m) := by
  obtain ⟨h1, h2, h3, h4, h5⟩ := hg
  obtain ⟨b, off, rfl, hr2⟩ := hr.row (by have := h1.1; omega)
  by_cases e : cls (z 4) = 2
  · exact rd_state b off n c z w hr2 hc hcm hn2 _ rfl h1 h2 m h3 h4 e (h5 e)
  · exact rd_plain b off n c z w hr2 hc hcm hn2 _ rfl h1 h2 m h3 h4 e
theorem read_form (A : Option Addr) (n c : Nat) (z : Nat → Int) (w : World) (hr : Rd w A n z) (hc : n ≤ c) (hcm : c ≤ maxLen) (hn2 : n ≤ 1492) (hf : ¬ FormOk z n) :
    Calls Tryd.prog 45 #[.slice A n c] w (RdErr w 3) := by
  exact rd_formW A n c z w hr hn2 (fun W hbW => rf_fail A n c z W (hr.below hbW rfl) hc hcm hn2 hf)
end Go.Proofs.YtccoicjmmeoggaaDoor

/- A list of types and values that came in as an argument can be read. No condition. -/
namespace Go.Proofs.YtccoicjmmeoggaaDoor
open Go.RowKit Go.ChangeShapes Go.WideShapes
set_option linter.unusedVariables false

theorem mem_weightsAll {H : Type} {P : Program} {e : TypeId} {ds : List (DataW H)} {d : DataW H} (hd : d ∈ ds) : ∀ n ∈ d.weights P e, n ∈ DataW.weightsAll P e ds := by
  induction ds with
  | nil => cases hd
  | cons x r ih =>
    intro n hn
    simp only [DataW.weightsAll, List.mem_append]
    rcases List.mem_cons.1 hd with rfl | h
    · exact .inl hn
    · exact .inr (ih h n hn)

end Go.Proofs.YtccoicjmmeoggaaDoor

/- A packet that came in as an argument can be read. No condition. -/
namespace Go.Proofs.YtccoicjmmeoggaaDoor
open Go.RowKit Go.ChangeShapes Go.WideShapes
set_option linter.unusedVariables false

section
variable {H : Type} {enc : TypeId × Value → H} {w : World} {base : Nat} {spare : Nat → Bool} {held : Bool} {m : Nat} {cs : List Value}
end
end Go.Proofs.YtccoicjmmeoggaaDoor

/- What the laws of pdu have in common: a copy is made and written. Each theorem states its conditions. -/
namespace Go.Proofs.YtccoicjmmeoggaaDoor
open Go.RowKit
set_option linter.unusedVariables false

end Go.Proofs.YtccoicjmmeoggaaDoor

/- An LSP of which a byte is turned is no packet. Each theorem states its conditions. -/
namespace Go.Proofs.YtccoicjmmeoggaaDoor
open Go.RowKit
set_option linter.unusedVariables false

theorem RdT.cut {w : World} {A : Option Addr} {m : Nat} {L : Nat → It} (h : RdT w A m L) (k : Nat) (hk : k ≤ m) : RdT w A k L := by
  rcases h with h | ⟨b, off, rfl, h⟩
  · exact .inl (by omega)
  · exact .inr ⟨b, off, rfl, h.1, fun j hj => h.2 j (by omega)⟩
end Go.Proofs.YtccoicjmmeoggaaDoor

/- An LSP whose life alone is another one: its bytes. Each theorem states its conditions. -/
namespace Go.Proofs.YtccoicjmmeoggaaDoor
open Go.RowKit
set_option linter.unusedVariables false

end Go.Proofs.YtccoicjmmeoggaaDoor

/- Packets with other lists that are alike; Plain of every kind. Each theorem states its conditions. -/
namespace Go.Proofs.YtccoicjmmeoggaaDoor
open Go.RowKit
set_option linter.unusedVariables false

theorem below_drewN (w : World) (k : Nat) : Below w.heap.size w (w.drewN k) := ⟨rfl, rfl, rfl, Nat.le_refl _, fun k hk => rfl⟩
end Go.Proofs.YtccoicjmmeoggaaDoor

/- mac.isSignature, the search for a signature among TLVs, checkSecret, least. Each theorem states its conditions. -/
namespace Go.Proofs.YtccoicjmmeoggaaDoor
open Go.RowKit
set_option linter.unusedVariables false

/-- the cells of one of a list -/
def itC (t : It) : Array Value := #[.int .u8 t.ty, .slice t.A t.n t.c]
theorem info_it : (Tryd.prog.info? 49).map (·.size) = some 2 := by kernel_rfl
theorem rowT_rng {w : World} {b off m : Nat} {L : Nat → It} (h : RowT w b off m L) (j : Nat) (hj : j < m) : w.rangeAt b (off + j * 2) (itC (L j)).toList := by
  obtain ⟨c0, c1, _⟩ := h.2 j hj
  intro i u hu
  match i, hu with
  | 0, hu => injection hu with hu; rw [← hu]; exact c0
  | 1, hu => injection hu with hu; rw [← hu]; exact c1
  | i + 2, hu => cases hu
set_option maxHeartbeats 4000000 in
set_option maxRecDepth 100000 in
theorem isSig_any (t : It) (w : World) :
    Calls Tryd.prog 40 #[.agg (itC t)] w fun e w' => e = .returned (.bool (t.ty == 10)) ∧ Below w.heap.size w w' := by
  go_enter Tryd.func40, Tryd.ntmps40
  have HB := Lib.hid (Below.refl w.heap.size w)
  obtain ⟨N1, hN1⟩ : ∃ N, w.heap.size = N := ⟨_, rfl⟩
  have HN1 := Lib.hid hN1
  clear hN1
  go_wp2_with (refine wpList_box (op := ⟨some 1, _, _, _, _, _⟩) rfl 49 (.tmp 0) rfl (itC t) rfl N1 HN1.out ?_; intro w1 k1 b1 s1; refine Hid.out ?_)
  refine Lib.hid ?_
  have K1 := Lib.hid k1
  clear k1
  have HBn := Lib.hid (HB.out.trans (b1.mono HB.out.size))
  clear HB
  have HB := HBn
  clear HBn
  clear b1 HN1
  have c1 : w1.cell? ⟨N1, 0, none⟩ = some (.int .u8 t.ty) := (K1.out.cell 0).trans rfl
  go_wp2_with fail
  go_ret
  exact ⟨by simp, HB.out⟩
/-- there is one among the first n; none is -/
def NoSig (L : Nat → It) (n : Nat) : Prop := ∀ j, j < n → (L j).ty ≠ 10
def AtSig (L : Nat → It) (n k : Nat) : Prop := k < n ∧ (L k).ty = 10 ∧ NoSig L k
theorem noSig_next {L : Nat → It} {k : Nat} (h : NoSig L k) (hq : ((L k).ty == 10) = false) : NoSig L (k + 1) := by
  intro j hj
  by_cases e : j = k
  · subst e; simpa using hq
  · exact h j (by omega)
def IdxS (L : Nat → It) (n : Nat) (w : World) (e : Ending) (w' : World) : Prop := ∃ r : Int, e = .returned (.int .i64 r) ∧ ((∃ k : Nat, r = (k : Int) ∧ AtSig L n k) ∨ (r = -1 ∧ NoSig L n)) ∧ Below w.heap.size w w'
set_option maxHeartbeats 4000000 in
set_option maxRecDepth 100000 in
theorem idxS_any (A : Option Addr) (n c : Nat) (L : Nat → It) (w : World) (hR : RdT w A n L) (hn : n ≤ 140737488351232) :
    Calls Tryd.prog 65 #[.slice A n c, .func (.func 40) #[] #[]] w (IdxS L n w) := by
  rcases Nat.eq_zero_or_pos n with rfl | hpos
  · clear hR
    go_enter Tryd.func65, Tryd.ntmps65
    go_wp2
    refine wp_loop_rounds 1 ?_
    rw [rounds_succ]
    go_wp2
    go_ret
    exact ⟨-1, rfl, .inr ⟨rfl, fun j hj => by omega⟩, Below.refl _ _⟩
  · obtain ⟨b, off, rfl, hr⟩ := hR.row hpos
    have HR := Lib.hid hr
    clear hR hr
    go_enter Tryd.func65, Tryd.ntmps65
    have HB := Lib.hid (Below.refl w.heap.size w)
    go_wp2_with fail
    go_loopw [8] (fun t wr => ∃ k : Nat, k ≤ n ∧ t = .int .i64 k ∧ Hid (NoSig L k) ∧ Hid (Below w.heap.size w wr)) (fun t _ => n - (intOf t).toNat)
    case atStart => exact ⟨0, by omega, rfl, Lib.hid (fun j hj => absurd hj (Nat.not_lt_zero _)), HB⟩
    case round =>
      obtain ⟨k, hk, rfl, HA, HW⟩ := hrel
      by_cases hlt : k < n
      · have hki : (k : Int) < (n : Int) := by omega
        have h1 : Hid (wr.rangeAt b (off + k * 2) (itC (L k)).toList) := Lib.hid (rangeAt_below (rowT_rng HR.out k hlt) HW.out HR.out.1)
        go_wp2_with (refine wpList_ld (op := ⟨some 15, _, _, _, _, _⟩) (by rfl) 49 (.tmp 14) rfl b (off + k * 2) rfl (itC (L k)) _ h1.out Tryd.underlying49 rfl info_it ?_; refine Hid.out ?_)
        refine Lib.hid ?_
        clear h1
        go_wp2_with fail
        refine (isSig_any (L k) wr).mono ?_
        rintro e w2 ⟨rfl, b1⟩
        have HW2 := Lib.hid (HW.out.trans (b1.mono HW.out.size))
        clear b1
        cases hq : (L k).ty == 10 with
        | true =>
          go_wp2_with fail
          go_ret
          exact ⟨k, rfl, .inl ⟨k, rfl, hlt, by simpa using hq, HA.out⟩, HW2.out⟩
        | false =>
          go_wp2_with fail
          go_roundw
          case rel => exact ⟨k + 1, by omega, by go_num, Lib.hid (noSig_next HA.out hq), HW2⟩
          case measure => simp only [intOf]; omega
      · obtain rfl : k = n := by omega
        go_wp2_with fail
        go_ret
        exact ⟨-1, rfl, .inr ⟨rfl, HA.out⟩, HW.out⟩
/-- what keeps a secret of n bytes from signing -/
def secE (n : Nat) : Int := if 64 < n then 2 else if n = 0 then 3 else 0
theorem secE_bd (n : Nat) : 0 ≤ secE n ∧ secE n ≤ 3 := by unfold secE; (repeat' split) <;> omega
set_option maxHeartbeats 4000000 in
set_option maxRecDepth 100000 in
theorem secret_any (A : Option Addr) (n c : Nat) (w : World) :
    Calls Tryd.prog 38 #[.slice A n c] w fun e w' => e = .returned (.int .i64 (secE n)) ∧ w' = w := by
  by_cases h1 : 64 < n
  · have h1' : (64 : Int) < (n : Int) := by omega
    have hE : Hid (secE n = 2) := Lib.hid (by unfold secE; rw [if_pos h1])
    clear h1
    go_enter Tryd.func38, Tryd.ntmps38
    go_wp2_with fail
    go_ret
    exact ⟨by rw [hE.out]; rfl, rfl⟩
  · have h1' : ¬ (64 : Int) < (n : Int) := by omega
    rcases Nat.eq_zero_or_pos n with rfl | h2
    · go_enter Tryd.func38, Tryd.ntmps38
      go_wp2_with fail
      go_ret
      exact ⟨rfl, rfl⟩
    · have hE : Hid (secE n = 0) := Lib.hid (by unfold secE; rw [if_neg h1, if_neg (by omega)])
      have h2' : ((n : Int) == 0) = false := by simp; omega
      clear h1 h2
      go_enter Tryd.func38, Tryd.ntmps38
      go_wp2_with fail
      go_ret
      exact ⟨by rw [hE.out]; rfl, rfl⟩
/-- the lesser of two errors, if there are two -/
def lea (a b : Int) : Int := if a = 0 then b else if b = 0 then a else if a ≤ b then a else b
theorem lea_bd {a b : Int} (ha : 0 ≤ a ∧ a ≤ 20) (hb : 0 ≤ b ∧ b ≤ 20) : 0 ≤ lea a b ∧ lea a b ≤ 20 := by unfold lea; (repeat' split) <;> omega
set_option maxHeartbeats 4000000 in
set_option maxRecDepth 100000 in
theorem least_any (a b : Int) (w : World) (ha : 0 ≤ a ∧ a ≤ 20) (hb : 0 ≤ b ∧ b ≤ 20) :
    Calls Tryd.prog 37 #[.int .i64 a, .int .i64 b] w fun e w' => e = .returned (.int .i64 (lea a b)) ∧ w' = w := by
  obtain ⟨m, rfl⟩ : ∃ m : Nat, a = (m : Int) := ⟨a.toNat, by omega⟩
  obtain ⟨n, rfl⟩ : ∃ n : Nat, b = (n : Int) := ⟨b.toNat, by omega⟩
  by_cases h1 : m = 0
  · subst h1
    have hE : Hid (lea ((0 : Nat) : Int) (n : Int) = (n : Int)) := Lib.hid (by unfold lea; exact if_pos (by omega))
    clear ha hb
    go_enter Tryd.func37, Tryd.ntmps37
    go_wp2_with fail
    all_goals (go_ret; refine ⟨?_, rfl⟩; have h9 := (show lea 0 (n : Int) = (n : Int) from hE.out); refine congrArg (fun q => Ending.returned (.int .i64 q)) ?_; first | omega | (split at h9 <;> first | omega | (simp; omega) | (split <;> omega)) | (simp; omega))
  · have h1' : ((m : Int) == 0) = false := by simp; omega
    by_cases h2 : n = 0
    · subst h2
      have hE : Hid (lea (m : Int) ((0 : Nat) : Int) = (m : Int)) := Lib.hid (by unfold lea; rw [if_neg (by omega)]; exact if_pos (by omega))
      clear ha hb h1
      go_enter Tryd.func37, Tryd.ntmps37
      go_wp2_with fail
      all_goals (go_ret; refine ⟨?_, rfl⟩; have h9 := hE.out; refine congrArg (fun q => Ending.returned (.int .i64 q)) ?_; first | omega | (split at h9 <;> first | omega | (simp; omega) | (split <;> omega)) | (simp; omega))
    · have h2' : ((n : Int) == 0) = false := by simp; omega
      have hE : Hid (lea (m : Int) (n : Int) = if (m : Int) ≤ n then (m : Int) else n) := Lib.hid (by unfold lea; rw [if_neg (by omega), if_neg (by omega)])
      clear ha hb h1 h2
      go_enter Tryd.func37, Tryd.ntmps37
      go_wp2_with fail
      all_goals (go_ret; refine ⟨?_, rfl⟩; have h9 := hE.out; refine congrArg (fun q => Ending.returned (.int .i64 q)) ?_; first | omega | (split at h9 <;> first | omega | (simp; omega) | (split <;> omega)) | (simp; omega))
end Go.Proofs.YtccoicjmmeoggaaDoor

/- One list of TLVs behind another. Each theorem states its conditions. -/
namespace Go.Proofs.YtccoicjmmeoggaaDoor
open Go.RowKit
set_option linter.unusedVariables false

/-- append of a slice that may be nil -/
theorem wpList_append_any {P : Program} {w : World} {ops : Array Oper} {rest : List Oper} {o : Oper} {a : Act} {Q : Exit → Act → World → Prop} (hgd : o.guard = none) (s x : Operand) (t : TypeId)
    (ho : o.op = .call { callee := .builtin .append, args := #[s, x], argTypes := #[t, t] })
    (base : Nat) (e : TypeId) (i : TypeInfo) (z : Value) (size bytes : Nat) (ht : P.underlying t = some (.slice e)) (hi : P.info? e = some i) (hz : i.zero = some z)
    (hsize : i.size = size) (hby : i.bytes = bytes) (hzs : z.cells.size = size) (hsz : 0 < size)
    (v : Value) (n : Nat) (xs : List Value) (hs : a.eval s = v) (hown : w.ownsRow base e size v n xs)
    (ao : Option Addr) (m c : Nat) (news : List Value) (hx : a.eval x = .slice ao m c) (hl : news.length = m * size) (hnone : ao = none → m = 0 ∧ c = 0) (hnews : ∀ ad, ao = some ad → ∀ j u, news[j]? = some u → w.cell? (ad.add j) = some u) (h1 : ∀ u ∈ news, u.oneCell' = true)
    (h63 : n + m ≤ maxLen) (hbytes : (n + m) * bytes ≤ 140737488355328) (hbase : base ≤ w.heap.size)
    (h : ∀ v' w', w'.ownsRow base e size v' (n + m) (xs ++ news) → w.grownBy w' v.ownBlock → wpList P ops Q rest (a.put o.dst v') w') :
    wpList P ops Q (o :: rest) a w := by
  rcases ao with _ | ad
  · obtain ⟨rfl, rfl⟩ := hnone rfl
    have hn : news = [] := List.eq_nil_of_length_eq_zero (by simpa using hl)
    subst hn
    exact wpList_append_own_none hgd s x t ho base e i size ht hi v n xs hs hown hx (h v w (by simpa using hown) (World.grownBy.refl _ _))
  · exact wpList_append_own_at _ hgd s x t ho base e i z size bytes ht hi hz hsize hby hzs hsz v n xs hs hown ad m c news hx hl (hnews ad rfl) h1 h63 hbytes hbase (fun v' w' a b _ _ => h v' w' a b)
/-- m items, and others behind them -/
def catT (L : Nat → It) (m : Nat) (M : Nat → It) : Nat → It := fun j => if j < m then L j else M (j - m)
theorem catT_lo (L : Nat → It) (m j : Nat) (M : Nat → It) (h : j < m) : catT L m M j = L j := by simp [catT, h]
/-- the cells of a list that can be read -/
theorem rdT_news {w : World} {A : Option Addr} {m : Nat} {L : Nat → It} (h : RdT w A m L) : ∀ ad, A = some ad → ∀ j u, (cellsT L m)[j]? = some u → w.cell? (ad.add j) = some u := by
  intro ad hA j u hu
  have hl := cellsT_len L m
  have hj : j < m * 2 := by
    rcases Nat.lt_or_ge j (m * 2) with h | h
    · exact h
    · rw [List.getElem?_eq_none (by omega)] at hu; cases hu
  obtain ⟨b, off, e, hr⟩ := h.row (by omega)
  rw [hA] at e
  injection e with e
  subst e
  have hadd : (⟨b, off, none⟩ : Addr).add j = ⟨b, off + j, none⟩ := by unfold Addr.add; split <;> simp_all
  rw [hadd]
  obtain ⟨g0, g1, _⟩ := hr.2 (j / 2) (by omega)
  obtain ⟨x0, x1⟩ := cellsT_at L m (j / 2) (by omega)
  rcases (by omega : j = j / 2 * 2 ∨ j = j / 2 * 2 + 1) with e | e
  · rw [← e] at g0 x0
    rw [hu] at x0
    rw [g0, x0]
  · rw [← e] at x1
    rw [show off + j = off + j / 2 * 2 + 1 by omega, g1]
    rw [hu] at x1
    rw [x1]
theorem ownsRow_le' {w : World} {base base' size n : Nat} {e : TypeId} {v : Value} {xs : List Value} (h : w.ownsRow base e size v n xs) (hb : base' ≤ base) : w.ownsRow base' e size v n xs :=
  ⟨h.1, h.2.elim Or.inl (fun ⟨g, cap, cur, hv, hg, r⟩ => Or.inr ⟨g, cap, cur, hv, Nat.le_trans hb hg, r⟩)⟩
theorem OwnT.le {w : World} {base base' m : Nat} {v : Value} {L : Nat → It} (h : OwnT w base v m L) (hb : base' ≤ base) : OwnT w base' v m L :=
  ⟨ownsRow_le' h.1 hb, fun j hj => (h.2 j hj).mono hb⟩
end Go.Proofs.YtccoicjmmeoggaaDoor

/- slices.Grow and slices.Concat, of bytes and of TLVs. Each theorem states its conditions. -/
namespace Go.Proofs.YtccoicjmmeoggaaDoor
open Go.RowKit
set_option linter.unusedVariables false

end Go.Proofs.YtccoicjmmeoggaaDoor

/- mac.signature: the TLV that signs a packet. Each theorem states its conditions. -/
namespace Go.Proofs.YtccoicjmmeoggaaDoor
open Go.RowKit
set_option linter.unusedVariables false

/-- bytes of the call's own, as what is carried along -/
def By8 (w : World) (g n cap : Nat) (z : Nat → Int) : Prop := Own8 w g n cap z
section
variable {w w' : World} {g n cap : Nat} {z : Nat → Int}
theorem By8.lt (h : By8 w g n cap z) : g < w.heap.size := Own8.lt h
theorem By8.below {B : Nat} (h : By8 w g n cap z) (hb : Below B w w') (hB : g < B) : By8 w' g n cap z := Own8.below h hb hB
theorem By8.far {b : Nat} {C : Array Value} {t : TypeId} (h : By8 w g n cap z) (hs : Stored w w' b C t) (hk : g ≠ b) : By8 w' g n cap z := Own8.block h (hs.2.2 g hk)
theorem By8.rd (h : By8 w g n cap z) : Rd w (some ⟨g, 0, none⟩) n z := Own8.rd h
theorem By8.caps (h : By8 w g n cap z) : n ≤ cap ∧ cap ≤ maxLen := Own8.caps h
end
/-- a slice of some values is made, in the order of the text -/
theorem wpList_bsn {ops : Array Oper} {Q : Exit → Act → World → Prop} {rest : List Oper} {op : Oper} {a : Act} {w : World} (n : Nat) (hgd : op.guard = none) (t : TypeId) (C : Array Value) (hx : (execOp a.eval op).run Tryd.prog w = .ok (.value (.slice (some ⟨w.heap.size, 0, none⟩) n n)) (w.alloc (.cells C t)))
    (N : Nat) (hN : w.heap.size = N) (h : ∀ w', Blk t w' N C → Below w.heap.size w w' → N + 1 ≤ w'.heap.size → wpList Tryd.prog ops Q rest (a.put op.dst (.slice (some ⟨N, 0, none⟩) n n)) w') : wpList Tryd.prog ops Q (op :: rest) a w := by
  subst hN
  refine wpList_plain hgd fun K hK => ?_
  unfold Oper.wp
  rw [hx, Oper.upon_value]
  exact hK _ _ (h _ (heap_alloc_new w _) ((Below.refl _ _).alloc (Nat.le_refl _) _) (by simp))
/-- the bytes of a signature -/
def sigZ (id : Nat) (z : Nat → Int) : Nat → Int := fun j => if j = 0 then 3 else if j < 3 then putZ id 2 (j - 1) else z (j - 3)
def SigP (w : World) (id : Nat) (z : Nat → Int) (e : Ending) (w' : World) : Prop := ∃ g c, e = .returned (.agg (itC ⟨10, some ⟨g, 0, none⟩, 35, c, sigZ id z⟩)) ∧ w.heap.size ≤ g ∧ Own8 w' g 35 c (sigZ id z) ∧ 35 ≤ c ∧ c ≤ maxLen ∧ Below w.heap.size w w'
end Go.Proofs.YtccoicjmmeoggaaDoor

/- mac.with: a packet with one TLV more. Each theorem states its conditions. -/
namespace Go.Proofs.YtccoicjmmeoggaaDoor
open Go.RowKit
set_option linter.unusedVariables false

theorem zero_pdP : (Tryd.prog.info? 46).map (·.zero) = some (some (.agg (pdC pd0))) := by kernel_rfl
/-- a list, and one more behind it -/
def addT (L : Nat → It) (m : Nat) (t : It) : Nat → It := catT L m (fun _ => t)
theorem addT_lo (L : Nat → It) (m j : Nat) (t : It) (h : j < m) : addT L m t j = L j := catT_lo _ _ _ _ h
def WithP (w : World) (p : Pd) (L : Nat → It) (t : It) (e : Ending) (w' : World) : Prop := ∃ g c, e = .returned (.agg (pdC (withT p (some ⟨g, 0, none⟩) (p.m + 1) c))) ∧ w.heap.size ≤ g ∧ RdT w' (some ⟨g, 0, none⟩) (p.m + 1) (addT L p.m t) ∧ p.m + 1 ≤ c ∧ c ≤ maxLen ∧ Below w.heap.size w w'
set_option maxRecDepth 100000 in
theorem pd_put (p : Pd) (A : Option Addr) (m c : Nat) : putMany (pdC p) 46 [.slice A m c] = pdC (withT p A m c) := by kernel_rfl
set_option maxRecDepth 100000 in
theorem pd_over (p q : Pd) : putMany (pdC q) 0 (pdC p).toList = pdC p := by kernel_rfl
theorem pd_46 (p : Pd) : (pdC p)[46]? = some (.slice p.A p.m p.c) := rfl
theorem info_lt : (Tryd.prog.info? 40).map (·.size) = some 1 := by kernel_rfl
theorem one_sl {A : Option Addr} {n c : Nat} : (#[Value.slice A n c] : Array Value).all (·.oneCell') = true := by kernel_rfl
end Go.Proofs.YtccoicjmmeoggaaDoor

/- mac.macOf: the bytes that sign a packet. Each theorem states its conditions. -/
namespace Go.Proofs.YtccoicjmmeoggaaDoor
open Go.RowKit
set_option linter.unusedVariables false

/-- k bytes from o on are nought -/
def zapZ (z : Nat → Int) (o k : Nat) : Nat → Int := fun j => if o ≤ j ∧ j < o + k then 0 else z j
theorem zapZ_bd {z : Nat → Int} (hz : ∀ j, 0 ≤ z j ∧ z j ≤ 255) (o k : Nat) : ∀ j, 0 ≤ zapZ z o k j ∧ zapZ z o k j ≤ 255 := by
  intro j; unfold zapZ; split
  · omega
  · exact hz j
theorem putMany_size (vs : List Value) : ∀ (o : Nat) (cur : Array Value), (putMany cur o vs).size = cur.size := by
  induction vs with
  | nil => intro o cur; rfl
  | cons v r ih => intro o cur; exact (ih _ _).trans (by simp)
theorem putMany_rep (v : Value) (k : Nat) : ∀ (o : Nat) (cur : Array Value) (j : Nat), o + k ≤ cur.size → (putMany cur o (List.replicate k v))[j]? = if o ≤ j ∧ j < o + k then some v else cur[j]? := by
  induction k with
  | zero => intro o cur j _; rw [if_neg (by omega)]; rfl
  | succ k ih =>
    intro o cur j h
    show (putMany (cur.setIfInBounds o v) (o + 1) (List.replicate k v))[j]? = _
    rw [ih (o + 1) _ j (by simp; omega), Array.getElem?_setIfInBounds]
    by_cases h1 : o + 1 ≤ j ∧ j < o + 1 + k
    · rw [if_pos h1, if_pos (by omega)]
    · rw [if_neg h1]
      by_cases h2 : o = j
      · subst h2; rw [if_pos rfl, if_pos (by omega), if_pos (by omega)]
      · rw [if_neg h2, if_neg (by omega)]
/-- 'clear' of a part of bytes of the call's own -/
theorem wpList_clear {ops : Array Oper} {Q : Exit → Act → World → Prop} {rest : List Oper} {op : Oper} {a : Act} {w : World} (hgd : op.guard = none) (x : Operand)
    (ho : op.op = .call { callee := .builtin .clear, args := #[x], argTypes := #[22] }) (g o k c0 : Nat) (hx : a.eval x = .slice (some ⟨g, o, none⟩) k c0) (hk : 0 < k) {n cap : Nat} {z : Nat → Int} (h : Own8 w g n cap z) (hok : o + k ≤ n)
    (H : ∀ w' C, Stored w w' g C 5 → Own8 w' g n cap (zapZ z o k) → wpList Tryd.prog ops Q rest (a.put op.dst (.tuple #[])) w') : wpList Tryd.prog ops Q (op :: rest) a w := by
  obtain ⟨⟨cur, hg, h1, h2, h3, h4⟩, h5⟩ := h
  obtain ⟨i, hi, hz0, hz1, hz2⟩ := info_parts info_u8
  have hr := Lib.run_clear_slice (P := Tryd.prog) w 22 5 op.type (.int .u8 0) Tryd.underlying22 (fun w => by simp [zeroValue, typeInfo, hi, hz0]) rfl rfl g o k c0 hk
    (fun j hj => by rw [cell_of_row w g (o + j) cur _ (0, 0) hg, Array.getElem?_eq_getElem (by omega)]; rfl) (fun j hj => by simp [World.frozen?, hg])
  have hs : Stored w (w.setCells g o (List.replicate k (.int .u8 0))) g (putMany cur o (List.replicate k (.int .u8 0))) 5 :=
    ⟨heap_setMany g _ _ o w cur hg, fun B hB => below_setMany g _ o w B hB, fun j hj => other_setMany g j hj _ o w⟩
  refine wpList_plain hgd fun K hK => ?_
  unfold Oper.wp execOp
  simp only [ho, resolve, invoke, builtin, Sem.run_bind, Sem.run_pure, Result.andThen_ok, List.map_toArray, List.map_cons, List.map_nil, hx, hr, Oper.upon_value]
  refine hK _ _ (H _ _ hs ⟨⟨_, hs.1, h1, h2, by rw [putMany_size, h3], fun j hj => ?_⟩, zapZ_bd h5 o k⟩)
  rw [putMany_rep _ _ _ _ _ (by omega)]
  unfold zapZ
  by_cases h9 : o ≤ j ∧ j < o + k
  · rw [if_pos h9, if_pos h9]
  · rw [if_neg h9, if_neg h9]; exact h4 j hj
/-- a packet's bytes as they are signed -/
def blkZ (q2 : Prop) [Decidable q2] (z : Nat → Int) (n : Nat) : Nat → Int := if q2 then zapZ (zapZ (zapZ z (n - 32) 32) 10 2) 24 2 else zapZ z (n - 32) 32
theorem hmac_own {w0 w : World} {A : Option Addr} {m ck : Nat} {k : Nat → Int} {g n c : Nat} {z : Nat → Int} (hk : Rd w A m k) (hA : A = none → m = 0 ∧ ck = 0) (hp : By8 w g n c z) (hm : m ≤ 64) (hn : n ≤ 140737488355200) (hg : Rts w 0) :
    Calls Tryd.prog 11 #[.slice A m ck, .slice (some ⟨g, 0, none⟩) n c] w fun e w' => e = .returned (.tuple #[.agg (bytC 32 (hmacZ k m z n)), .int .i64 0]) ∧ Below w.heap.size w w' :=
  hmac_any A m ck k _ n c z w hk hA hp.rd (fun e => by cases e) hm hn hg
set_option maxHeartbeats 8000000 in
set_option maxRecDepth 100000 in
theorem macOf_2 (B : Option Addr) (n c : Nat) (z : Nat → Int) (kd : Int) (A : Option Addr) (m ck : Nat) (k : Nat → Int) (w : World) (hq : kd = 18 ∨ kd = 20) (hB : Rd w B n z) (hBn : B = none → n = 0 ∧ c = 0) (hn : 54 ≤ n) (hn2 : n ≤ 1492) (hk : Rd w A m k) (hA : A = none → m = 0 ∧ ck = 0) (hm : m ≤ 64) (hg : Rts w 0) :
    Calls Tryd.prog 41 #[.slice B n c, .int .u8 kd, .slice A m ck] w fun e w' => e = .returned (.agg (bytC 32 (hmacZ k m (zapZ (zapZ (zapZ z (n - 32) 32) 10 2) 24 2) n))) ∧ Below w.heap.size w w' := by
  have HBB := Lib.hid hB
  have HBN := Lib.hid hBn
  have HK := Lib.hid hk
  have HA := Lib.hid hA
  have HMM := Lib.hid hm
  have RT := Lib.hid hg
  have hg9 := hg.2
  have HN := Lib.hid (And.intro hn hn2)
  obtain ⟨o, ho⟩ : ∃ o, n = o + 32 := ⟨n - 32, by omega⟩
  have HO := Lib.hid ho
  have ho1 : 22 ≤ o := by omega
  have ho2 : o ≤ 1460 := by omega
  obtain ⟨s, es⟩ : ∃ s, hmacZ k m (zapZ (zapZ (zapZ z (n - 32) 32) 10 2) 24 2) n = s := ⟨_, rfl⟩
  have HS := Lib.hid es
  clear hB hBn hk hA hm hg hn hn2 es
  subst ho
  rw [HS.out]
  have H18 : Hid ((kd == 18) = true ∨ ((kd == 18) = false ∧ (kd == 20) = true)) := Lib.hid (by rcases hq with rfl | rfl; exact .inl rfl; exact .inr ⟨rfl, rfl⟩)
  clear hq
  go_enter Tryd.func41, Tryd.ntmps41
  have HB := Lib.hid (Below.refl w.heap.size w)
  obtain ⟨N1, hN1⟩ : ∃ N, w.heap.size = N := ⟨_, rfl⟩
  have HN1 := Lib.hid hN1
  clear hN1
  go_wp2_with (refine wpList_new (op := ⟨some 6, _, _, _, _, _⟩) rfl 26 rfl (bytC 32 fun _ => 0) zero_d N1 HN1.out ?_; intro w1 k1 b1 s1; refine Hid.out ?_)
  refine Lib.hid ?_
  have K6 := Lib.hid k1
  clear k1
  have lt_0_N1 : 0 < N1 := by rw [← HN1.out]; exact RT.out.lt
  have le_HB_N1 : w.heap.size ≤ N1 := by rw [← HN1.out]; exact HB.out.size
  have RTn := Lib.hid (RT.out.below b1 RT.out.lt)
  clear RT
  have RT := RTn
  clear RTn
  have HBn := Lib.hid (HB.out.trans (b1.mono HB.out.size))
  clear HB
  have HB := HBn
  clear HBn
  clear b1 HN1
  go_wp2_with fail
  refine (cloneH_any B (o + 32) c z w1 (HBB.out.below HB.out rfl) HBN.out (by omega)).mono ?_
  rintro e w11 ⟨v7, rfl, h7⟩
  obtain ⟨g7, c7, rfl, hg7, ho7⟩ := own_ofB h7.1 (by omega)
  have b1 := h7.2.1
  have lt_6 : N1 < g7 := Nat.lt_of_lt_of_le K6.out.lt hg7
  have lt_R : 0 < g7 := Nat.lt_of_lt_of_le RT.out.lt hg7
  have le_w : w.heap.size ≤ g7 := Nat.le_trans HB.out.size hg7
  have hcap := ho7.caps.1
  have hcm : c7 ≤ 9223372036854775807 := ho7.caps.2
  have RTn := Lib.hid (RT.out.below b1 RT.out.lt)
  clear RT
  have RT := RTn
  clear RTn
  have K6n := Lib.hid (K6.out.below b1 K6.out.lt)
  clear K6
  have K6 := K6n
  clear K6n
  have HBn := Lib.hid (HB.out.trans (b1.mono HB.out.size))
  clear HB
  have HB := HBn
  clear HBn
  have K7 : Hid (By8 w11 g7 (o + 32) c7 z) := Lib.hid ho7
  clear h7 ho7 hg7 b1
  go_wp2_with (refine wpList_clear (op := ⟨none, _, _, _, _, _⟩) rfl (.tmp 16) rfl g7 (o) 32 _ rfl (by decide) K7.out (by omega) ?_; intro w21 C21 q1 q2; refine Hid.out ?_)
  refine Lib.hid ?_
  have RTn := Lib.hid (RT.out.far q1 (by omega))
  clear RT
  have RT := RTn
  clear RTn
  have K6n := Lib.hid (K6.out.far q1 (by omega))
  clear K6
  have K6 := K6n
  clear K6n
  have HBn := Lib.hid (HB.out.trans (q1.2.1 _ (by omega)))
  clear HB
  have HB := HBn
  clear HBn
  clear K7
  have K7 : Hid (By8 w21 g7 (o + 32) c7 (zapZ z o 32)) := Lib.hid q2
  clear q1 q2
  rcases H18.out with hk1 | ⟨hk1, hk2⟩
  · clear H18
    go_wp2_with (refine wpList_clear (op := ⟨none, _, _, _, _, _⟩) rfl (.tmp 24) rfl g7 (10) 2 _ rfl (by decide) K7.out (by omega) ?_; intro w22 C22 q1 q2; refine Hid.out ?_)
    refine Lib.hid ?_
    have RTn := Lib.hid (RT.out.far q1 (by omega))
    clear RT
    have RT := RTn
    clear RTn
    have K6n := Lib.hid (K6.out.far q1 (by omega))
    clear K6
    have K6 := K6n
    clear K6n
    have HBn := Lib.hid (HB.out.trans (q1.2.1 _ (by omega)))
    clear HB
    have HB := HBn
    clear HBn
    clear K7
    have K7 : Hid (By8 w22 g7 (o + 32) c7 (zapZ (zapZ z o 32) 10 2)) := Lib.hid q2
    clear q1 q2
    go_wp2_with (refine wpList_clear (op := ⟨none, _, _, _, _, _⟩) rfl (.tmp 26) rfl g7 (24) 2 _ rfl (by decide) K7.out (by omega) ?_; intro w23 C23 q1 q2; refine Hid.out ?_)
    refine Lib.hid ?_
    have RTn := Lib.hid (RT.out.far q1 (by omega))
    clear RT
    have RT := RTn
    clear RTn
    have K6n := Lib.hid (K6.out.far q1 (by omega))
    clear K6
    have K6 := K6n
    clear K6n
    have HBn := Lib.hid (HB.out.trans (q1.2.1 _ (by omega)))
    clear HB
    have HB := HBn
    clear HBn
    clear K7
    have K7 : Hid (By8 w23 g7 (o + 32) c7 (zapZ (zapZ (zapZ z o 32) 10 2) 24 2)) := Lib.hid q2
    clear q1 q2
    go_wp2_with fail
    refine (hmac_own (w0 := w) (HK.out.below HB.out rfl) HA.out K7.out HMM.out (by omega) RT.out).mono ?_
    rintro e w31 ⟨rfl, b1⟩
    have RTn := Lib.hid (RT.out.below b1 RT.out.lt)
    clear RT
    have RT := RTn
    clear RTn
    have K6n := Lib.hid (K6.out.below b1 K6.out.lt)
    clear K6
    have K6 := K6n
    clear K6n
    have K7n := Lib.hid (K7.out.below b1 K7.out.lt)
    clear K7
    have K7 := K7n
    clear K7n
    have HBn := Lib.hid (HB.out.trans (b1.mono HB.out.size))
    clear HB
    have HB := HBn
    clear HBn
    clear b1
    rw [show hmacZ k m (zapZ (zapZ (zapZ z o 32) 10 2) 24 2) (o + 32) = s from HS.out]
    obtain ⟨N41, hN41⟩ : ∃ N, w31.heap.size = N := ⟨_, rfl⟩
    have HN41 := Lib.hid hN41
    clear hN41
    go_wp2_with (refine wpList_new (op := ⟨some 8, _, _, _, _, _⟩) rfl 26 rfl (bytC 32 fun _ => 0) zero_d N41 HN41.out ?_; intro w41 k1 b1 s1; refine Hid.out ?_)
    refine Lib.hid ?_
    have K8 := Lib.hid k1
    clear k1
    have lt_0_N41 : 0 < N41 := by rw [← HN41.out]; exact RT.out.lt
    have lt_N1_N41 : N1 < N41 := by rw [← HN41.out]; exact K6.out.lt
    have lt_g7_N41 : g7 < N41 := by rw [← HN41.out]; exact K7.out.lt
    have le_HB_N41 : w.heap.size ≤ N41 := by rw [← HN41.out]; exact HB.out.size
    have RTn := Lib.hid (RT.out.below b1 RT.out.lt)
    clear RT
    have RT := RTn
    clear RTn
    have K6n := Lib.hid (K6.out.below b1 K6.out.lt)
    clear K6
    have K6 := K6n
    clear K6n
    have K7n := Lib.hid (K7.out.below b1 K7.out.lt)
    clear K7
    have K7 := K7n
    clear K7n
    have HBn := Lib.hid (HB.out.trans (b1.mono HB.out.size))
    clear HB
    have HB := HBn
    clear HBn
    clear b1 HN41
    go_wp2_with (refine wpList_st rfl 26 (.tmp 8) (.tmp 31) rfl N41 0 rfl (.agg (bytC 32 s)) (bytC 32 s) rfl rfl (info_d _) (byt_one _ _) K8.out (byt_fit _ _ _) (C' := bytC 32 s) (byt_all _ _ _) ?_; intro w42 q1; refine Hid.out ?_)
    refine Lib.hid ?_
    have RTn := Lib.hid (RT.out.far q1 (by omega))
    clear RT
    have RT := RTn
    clear RTn
    have K6n := Lib.hid (K6.out.far q1 (by omega))
    clear K6
    have K6 := K6n
    clear K6n
    have K7n := Lib.hid (K7.out.far q1 (by omega))
    clear K7
    have K7 := K7n
    clear K7n
    have HBn := Lib.hid (HB.out.trans (q1.2.1 _ (by omega)))
    clear HB
    have HB := HBn
    clear HBn
    have K8n : Hid (Blk 26 w42 N41 (bytC 32 s)) := Lib.hid q1.1
    clear K8
    have K8 := K8n
    clear K8n q1
    go_wp2_with (refine wpList_ld (op := ⟨some 33, _, _, _, _, _⟩) (by rfl) 26 (.tmp 8) rfl N41 0 rfl (bytC 32 s) _ K8.out.all Tryd.underlying26 rfl (info_dL _) ?_; refine Hid.out ?_)
    refine Lib.hid ?_
    go_wp2_with (refine wpList_st rfl 26 (.tmp 6) (.tmp 33) rfl N1 0 rfl (.agg (bytC 32 s)) (bytC 32 s) rfl rfl (info_d _) (byt_one _ _) K6.out (byt_fit _ _ _) (C' := bytC 32 s) (byt_all _ _ _) ?_; intro w51 q1; refine Hid.out ?_)
    refine Lib.hid ?_
    have RTn := Lib.hid (RT.out.far q1 (by omega))
    clear RT
    have RT := RTn
    clear RTn
    have K7n := Lib.hid (K7.out.far q1 (by omega))
    clear K7
    have K7 := K7n
    clear K7n
    have K8n := Lib.hid (K8.out.far q1 (by omega))
    clear K8
    have K8 := K8n
    clear K8n
    have HBn := Lib.hid (HB.out.trans (q1.2.1 _ (by omega)))
    clear HB
    have HB := HBn
    clear HBn
    have K6n : Hid (Blk 26 w51 N1 (bytC 32 s)) := Lib.hid q1.1
    clear K6
    have K6 := K6n
    clear K6n q1
    go_wp2_with fail
    exact bodyPost_ret (results_1 rfl _ _ N1 (bytC 32 s) Tryd.underlying26 rfl (info_d _) rfl K6.out) rfl ⟨rfl, HB.out⟩
  · clear H18
    go_wp2_with (refine wpList_clear (op := ⟨none, _, _, _, _, _⟩) rfl (.tmp 24) rfl g7 (10) 2 _ rfl (by decide) K7.out (by omega) ?_; intro w22 C22 q1 q2; refine Hid.out ?_)
    refine Lib.hid ?_
    have RTn := Lib.hid (RT.out.far q1 (by omega))
    clear RT
    have RT := RTn
    clear RTn
    have K6n := Lib.hid (K6.out.far q1 (by omega))
    clear K6
    have K6 := K6n
    clear K6n
    have HBn := Lib.hid (HB.out.trans (q1.2.1 _ (by omega)))
    clear HB
    have HB := HBn
    clear HBn
    clear K7
    have K7 : Hid (By8 w22 g7 (o + 32) c7 (zapZ (zapZ z o 32) 10 2)) := Lib.hid q2
    clear q1 q2
    go_wp2_with (refine wpList_clear (op := ⟨none, _, _, _, _, _⟩) rfl (.tmp 26) rfl g7 (24) 2 _ rfl (by decide) K7.out (by omega) ?_; intro w23 C23 q1 q2; refine Hid.out ?_)
    refine Lib.hid ?_
    have RTn := Lib.hid (RT.out.far q1 (by omega))
    clear RT
    have RT := RTn
    clear RTn
    have K6n := Lib.hid (K6.out.far q1 (by omega))
    clear K6
    have K6 := K6n
    clear K6n
    have HBn := Lib.hid (HB.out.trans (q1.2.1 _ (by omega)))
    clear HB
    have HB := HBn
    clear HBn
    clear K7
    have K7 : Hid (By8 w23 g7 (o + 32) c7 (zapZ (zapZ (zapZ z o 32) 10 2) 24 2)) := Lib.hid q2
    clear q1 q2
    go_wp2_with fail
    refine (hmac_own (w0 := w) (HK.out.below HB.out rfl) HA.out K7.out HMM.out (by omega) RT.out).mono ?_
    rintro e w31 ⟨rfl, b1⟩
    have RTn := Lib.hid (RT.out.below b1 RT.out.lt)
    clear RT
    have RT := RTn
    clear RTn
    have K6n := Lib.hid (K6.out.below b1 K6.out.lt)
    clear K6
    have K6 := K6n
    clear K6n
    have K7n := Lib.hid (K7.out.below b1 K7.out.lt)
    clear K7
    have K7 := K7n
    clear K7n
    have HBn := Lib.hid (HB.out.trans (b1.mono HB.out.size))
    clear HB
    have HB := HBn
    clear HBn
    clear b1
    rw [show hmacZ k m (zapZ (zapZ (zapZ z o 32) 10 2) 24 2) (o + 32) = s from HS.out]
    obtain ⟨N41, hN41⟩ : ∃ N, w31.heap.size = N := ⟨_, rfl⟩
    have HN41 := Lib.hid hN41
    clear hN41
    go_wp2_with (refine wpList_new (op := ⟨some 8, _, _, _, _, _⟩) rfl 26 rfl (bytC 32 fun _ => 0) zero_d N41 HN41.out ?_; intro w41 k1 b1 s1; refine Hid.out ?_)
    refine Lib.hid ?_
    have K8 := Lib.hid k1
    clear k1
    have lt_0_N41 : 0 < N41 := by rw [← HN41.out]; exact RT.out.lt
    have lt_N1_N41 : N1 < N41 := by rw [← HN41.out]; exact K6.out.lt
    have lt_g7_N41 : g7 < N41 := by rw [← HN41.out]; exact K7.out.lt
    have le_HB_N41 : w.heap.size ≤ N41 := by rw [← HN41.out]; exact HB.out.size
    have RTn := Lib.hid (RT.out.below b1 RT.out.lt)
    clear RT
    have RT := RTn
    clear RTn
    have K6n := Lib.hid (K6.out.below b1 K6.out.lt)
    clear K6
    have K6 := K6n
    clear K6n
    have K7n := Lib.hid (K7.out.below b1 K7.out.lt)
    clear K7
    have K7 := K7n
    clear K7n
    have HBn := Lib.hid (HB.out.trans (b1.mono HB.out.size))
    clear HB
    have HB := HBn
    clear HBn
    clear b1 HN41
    go_wp2_with (refine wpList_st rfl 26 (.tmp 8) (.tmp 31) rfl N41 0 rfl (.agg (bytC 32 s)) (bytC 32 s) rfl rfl (info_d _) (byt_one _ _) K8.out (byt_fit _ _ _) (C' := bytC 32 s) (byt_all _ _ _) ?_; intro w42 q1; refine Hid.out ?_)
    refine Lib.hid ?_
    have RTn := Lib.hid (RT.out.far q1 (by omega))
    clear RT
    have RT := RTn
    clear RTn
    have K6n := Lib.hid (K6.out.far q1 (by omega))
    clear K6
    have K6 := K6n
    clear K6n
    have K7n := Lib.hid (K7.out.far q1 (by omega))
    clear K7
    have K7 := K7n
    clear K7n
    have HBn := Lib.hid (HB.out.trans (q1.2.1 _ (by omega)))
    clear HB
    have HB := HBn
    clear HBn
    have K8n : Hid (Blk 26 w42 N41 (bytC 32 s)) := Lib.hid q1.1
    clear K8
    have K8 := K8n
    clear K8n q1
    go_wp2_with (refine wpList_ld (op := ⟨some 33, _, _, _, _, _⟩) (by rfl) 26 (.tmp 8) rfl N41 0 rfl (bytC 32 s) _ K8.out.all Tryd.underlying26 rfl (info_dL _) ?_; refine Hid.out ?_)
    refine Lib.hid ?_
    go_wp2_with (refine wpList_st rfl 26 (.tmp 6) (.tmp 33) rfl N1 0 rfl (.agg (bytC 32 s)) (bytC 32 s) rfl rfl (info_d _) (byt_one _ _) K6.out (byt_fit _ _ _) (C' := bytC 32 s) (byt_all _ _ _) ?_; intro w51 q1; refine Hid.out ?_)
    refine Lib.hid ?_
    have RTn := Lib.hid (RT.out.far q1 (by omega))
    clear RT
    have RT := RTn
    clear RTn
    have K7n := Lib.hid (K7.out.far q1 (by omega))
    clear K7
    have K7 := K7n
    clear K7n
    have K8n := Lib.hid (K8.out.far q1 (by omega))
    clear K8
    have K8 := K8n
    clear K8n
    have HBn := Lib.hid (HB.out.trans (q1.2.1 _ (by omega)))
    clear HB
    have HB := HBn
    clear HBn
    have K6n : Hid (Blk 26 w51 N1 (bytC 32 s)) := Lib.hid q1.1
    clear K6
    have K6 := K6n
    clear K6n q1
    go_wp2_with fail
    exact bodyPost_ret (results_1 rfl _ _ N1 (bytC 32 s) Tryd.underlying26 rfl (info_d _) rfl K6.out) rfl ⟨rfl, HB.out⟩
set_option maxHeartbeats 8000000 in
set_option maxRecDepth 100000 in
theorem macOf_0 (B : Option Addr) (n c : Nat) (z : Nat → Int) (kd : Int) (A : Option Addr) (m ck : Nat) (k : Nat → Int) (w : World) (h18 : kd ≠ 18) (h20 : kd ≠ 20) (hB : Rd w B n z) (hBn : B = none → n = 0 ∧ c = 0) (hn : 54 ≤ n) (hn2 : n ≤ 1492) (hk : Rd w A m k) (hA : A = none → m = 0 ∧ ck = 0) (hm : m ≤ 64) (hg : Rts w 0) :
    Calls Tryd.prog 41 #[.slice B n c, .int .u8 kd, .slice A m ck] w fun e w' => e = .returned (.agg (bytC 32 (hmacZ k m (zapZ z (n - 32) 32) n))) ∧ Below w.heap.size w w' := by
  have HBB := Lib.hid hB
  have HBN := Lib.hid hBn
  have HK := Lib.hid hk
  have HA := Lib.hid hA
  have HMM := Lib.hid hm
  have RT := Lib.hid hg
  have hg9 := hg.2
  have HN := Lib.hid (And.intro hn hn2)
  obtain ⟨o, ho⟩ : ∃ o, n = o + 32 := ⟨n - 32, by omega⟩
  have HO := Lib.hid ho
  have ho1 : 22 ≤ o := by omega
  have ho2 : o ≤ 1460 := by omega
  obtain ⟨s, es⟩ : ∃ s, hmacZ k m (zapZ z (n - 32) 32) n = s := ⟨_, rfl⟩
  have HS := Lib.hid es
  clear hB hBn hk hA hm hg hn hn2 es
  subst ho
  rw [HS.out]
  have H18 : Hid ((kd == 18) = false ∧ (kd == 20) = false) := Lib.hid ⟨by simpa using h18, by simpa using h20⟩
  clear h18 h20
  go_enter Tryd.func41, Tryd.ntmps41
  have HB := Lib.hid (Below.refl w.heap.size w)
  obtain ⟨N1, hN1⟩ : ∃ N, w.heap.size = N := ⟨_, rfl⟩
  have HN1 := Lib.hid hN1
  clear hN1
  go_wp2_with (refine wpList_new (op := ⟨some 6, _, _, _, _, _⟩) rfl 26 rfl (bytC 32 fun _ => 0) zero_d N1 HN1.out ?_; intro w1 k1 b1 s1; refine Hid.out ?_)
  refine Lib.hid ?_
  have K6 := Lib.hid k1
  clear k1
  have lt_0_N1 : 0 < N1 := by rw [← HN1.out]; exact RT.out.lt
  have le_HB_N1 : w.heap.size ≤ N1 := by rw [← HN1.out]; exact HB.out.size
  have RTn := Lib.hid (RT.out.below b1 RT.out.lt)
  clear RT
  have RT := RTn
  clear RTn
  have HBn := Lib.hid (HB.out.trans (b1.mono HB.out.size))
  clear HB
  have HB := HBn
  clear HBn
  clear b1 HN1
  go_wp2_with fail
  refine (cloneH_any B (o + 32) c z w1 (HBB.out.below HB.out rfl) HBN.out (by omega)).mono ?_
  rintro e w11 ⟨v7, rfl, h7⟩
  obtain ⟨g7, c7, rfl, hg7, ho7⟩ := own_ofB h7.1 (by omega)
  have b1 := h7.2.1
  have lt_6 : N1 < g7 := Nat.lt_of_lt_of_le K6.out.lt hg7
  have lt_R : 0 < g7 := Nat.lt_of_lt_of_le RT.out.lt hg7
  have le_w : w.heap.size ≤ g7 := Nat.le_trans HB.out.size hg7
  have hcap := ho7.caps.1
  have hcm : c7 ≤ 9223372036854775807 := ho7.caps.2
  have RTn := Lib.hid (RT.out.below b1 RT.out.lt)
  clear RT
  have RT := RTn
  clear RTn
  have K6n := Lib.hid (K6.out.below b1 K6.out.lt)
  clear K6
  have K6 := K6n
  clear K6n
  have HBn := Lib.hid (HB.out.trans (b1.mono HB.out.size))
  clear HB
  have HB := HBn
  clear HBn
  have K7 : Hid (By8 w11 g7 (o + 32) c7 z) := Lib.hid ho7
  clear h7 ho7 hg7 b1
  go_wp2_with (refine wpList_clear (op := ⟨none, _, _, _, _, _⟩) rfl (.tmp 16) rfl g7 (o) 32 _ rfl (by decide) K7.out (by omega) ?_; intro w21 C21 q1 q2; refine Hid.out ?_)
  refine Lib.hid ?_
  have RTn := Lib.hid (RT.out.far q1 (by omega))
  clear RT
  have RT := RTn
  clear RTn
  have K6n := Lib.hid (K6.out.far q1 (by omega))
  clear K6
  have K6 := K6n
  clear K6n
  have HBn := Lib.hid (HB.out.trans (q1.2.1 _ (by omega)))
  clear HB
  have HB := HBn
  clear HBn
  clear K7
  have K7 : Hid (By8 w21 g7 (o + 32) c7 (zapZ z o 32)) := Lib.hid q2
  clear q1 q2
  have hk1 := H18.out.1
  have hk2 := H18.out.2
  go_wp2_with fail
  refine (hmac_own (w0 := w) (HK.out.below HB.out rfl) HA.out K7.out HMM.out (by omega) RT.out).mono ?_
  rintro e w31 ⟨rfl, b1⟩
  have RTn := Lib.hid (RT.out.below b1 RT.out.lt)
  clear RT
  have RT := RTn
  clear RTn
  have K6n := Lib.hid (K6.out.below b1 K6.out.lt)
  clear K6
  have K6 := K6n
  clear K6n
  have K7n := Lib.hid (K7.out.below b1 K7.out.lt)
  clear K7
  have K7 := K7n
  clear K7n
  have HBn := Lib.hid (HB.out.trans (b1.mono HB.out.size))
  clear HB
  have HB := HBn
  clear HBn
  clear b1
  rw [show hmacZ k m (zapZ z o 32) (o + 32) = s from HS.out]
  obtain ⟨N41, hN41⟩ : ∃ N, w31.heap.size = N := ⟨_, rfl⟩
  have HN41 := Lib.hid hN41
  clear hN41
  go_wp2_with (refine wpList_new (op := ⟨some 8, _, _, _, _, _⟩) rfl 26 rfl (bytC 32 fun _ => 0) zero_d N41 HN41.out ?_; intro w41 k1 b1 s1; refine Hid.out ?_)
  refine Lib.hid ?_
  have K8 := Lib.hid k1
  clear k1
  have lt_0_N41 : 0 < N41 := by rw [← HN41.out]; exact RT.out.lt
  have lt_N1_N41 : N1 < N41 := by rw [← HN41.out]; exact K6.out.lt
  have lt_g7_N41 : g7 < N41 := by rw [← HN41.out]; exact K7.out.lt
  have le_HB_N41 : w.heap.size ≤ N41 := by rw [← HN41.out]; exact HB.out.size
  have RTn := Lib.hid (RT.out.below b1 RT.out.lt)
  clear RT
  have RT := RTn
  clear RTn
  have K6n := Lib.hid (K6.out.below b1 K6.out.lt)
  clear K6
  have K6 := K6n
  clear K6n
  have K7n := Lib.hid (K7.out.below b1 K7.out.lt)
  clear K7
  have K7 := K7n
  clear K7n
  have HBn := Lib.hid (HB.out.trans (b1.mono HB.out.size))
  clear HB
  have HB := HBn
  clear HBn
  clear b1 HN41
  go_wp2_with (refine wpList_st rfl 26 (.tmp 8) (.tmp 31) rfl N41 0 rfl (.agg (bytC 32 s)) (bytC 32 s) rfl rfl (info_d _) (byt_one _ _) K8.out (byt_fit _ _ _) (C' := bytC 32 s) (byt_all _ _ _) ?_; intro w42 q1; refine Hid.out ?_)
  refine Lib.hid ?_
  have RTn := Lib.hid (RT.out.far q1 (by omega))
  clear RT
  have RT := RTn
  clear RTn
  have K6n := Lib.hid (K6.out.far q1 (by omega))
  clear K6
  have K6 := K6n
  clear K6n
  have K7n := Lib.hid (K7.out.far q1 (by omega))
  clear K7
  have K7 := K7n
  clear K7n
  have HBn := Lib.hid (HB.out.trans (q1.2.1 _ (by omega)))
  clear HB
  have HB := HBn
  clear HBn
  have K8n : Hid (Blk 26 w42 N41 (bytC 32 s)) := Lib.hid q1.1
  clear K8
  have K8 := K8n
  clear K8n q1
  go_wp2_with (refine wpList_ld (op := ⟨some 33, _, _, _, _, _⟩) (by rfl) 26 (.tmp 8) rfl N41 0 rfl (bytC 32 s) _ K8.out.all Tryd.underlying26 rfl (info_dL _) ?_; refine Hid.out ?_)
  refine Lib.hid ?_
  go_wp2_with (refine wpList_st rfl 26 (.tmp 6) (.tmp 33) rfl N1 0 rfl (.agg (bytC 32 s)) (bytC 32 s) rfl rfl (info_d _) (byt_one _ _) K6.out (byt_fit _ _ _) (C' := bytC 32 s) (byt_all _ _ _) ?_; intro w51 q1; refine Hid.out ?_)
  refine Lib.hid ?_
  have RTn := Lib.hid (RT.out.far q1 (by omega))
  clear RT
  have RT := RTn
  clear RTn
  have K7n := Lib.hid (K7.out.far q1 (by omega))
  clear K7
  have K7 := K7n
  clear K7n
  have K8n := Lib.hid (K8.out.far q1 (by omega))
  clear K8
  have K8 := K8n
  clear K8n
  have HBn := Lib.hid (HB.out.trans (q1.2.1 _ (by omega)))
  clear HB
  have HB := HBn
  clear HBn
  have K6n : Hid (Blk 26 w51 N1 (bytC 32 s)) := Lib.hid q1.1
  clear K6
  have K6 := K6n
  clear K6n q1
  go_wp2_with fail
  exact bodyPost_ret (results_1 rfl _ _ N1 (bytC 32 s) Tryd.underlying26 rfl (info_d _) rfl K6.out) rfl ⟨rfl, HB.out⟩
end Go.Proofs.YtccoicjmmeoggaaDoor

/- mac.Seal: what it answers, for every packet and key. Each theorem states its conditions. -/
namespace Go.Proofs.YtccoicjmmeoggaaDoor
open Go.RowKit
set_option linter.unusedVariables false

/-- facts that are carried along by what lies below -/
def ByO (w : World) (g n cap : Nat) (z : Nat → Int) : Prop := Own8 w g n cap z
theorem ByO.below {w w' : World} {g n cap : Nat} {z : Nat → Int} (h : ByO w g n cap z) (hb : Below w.heap.size w w') : ByO w' g n cap z := Own8.below h hb (Own8.lt h)
def BlO (t : TypeId) (w : World) (g : Nat) (C : Array Value) : Prop := Blk t w g C
theorem BlO.below {t : TypeId} {w w' : World} {g : Nat} {C : Array Value} (h : BlO t w g C) (hb : Below w.heap.size w w') : BlO t w' g C := Blk.below h hb (Blk.lt h)
def RdO (w : World) (A : Option Addr) (n : Nat) (z : Nat → Int) : Prop := Rd w A n z
theorem RdO.below {w w' : World} {A : Option Addr} {n : Nat} {z : Nat → Int} (h : RdO w A n z) (hb : Below w.heap.size w w') : RdO w' A n z := Rd.below h hb rfl
/-- a slice of some values is made, where it alone may come up -/
theorem takeBsn {ops : Array Oper} {Q : Exit → Act → World → Prop} {md : Region.Mode} {S : World → Prop} {i : Nat} {oi : Oper} (d : Option Tmp) {fuel : Nat} {listed : Array Bool} {a : Act} {w : World} (n : Nat) (t : TypeId) (C : Array Value) (hi : ops[i]? = some oi) (hd : oi.dst = d)
    (hr : Region.ready md ops listed = [i]) (hw : Region.wanted oi (yielded ops a.tmps) = true) (hx : (execOp a.eval oi).run Tryd.prog w = .ok (.value (.slice (some ⟨w.heap.size, 0, none⟩) n n)) (w.alloc (.cells C t))) (N : Nat) (hN : w.heap.size = N)
    (h : ∀ w', Blk t w' N C → Below w.heap.size w w' → N + 1 ≤ w'.heap.size → S w' ∧ wpAnyH Tryd.prog md ops Q S fuel (listed.setIfInBounds i true) (a.put d (.slice (some ⟨N, 0, none⟩) n n)) w') : wpAnyH Tryd.prog md ops Q S (fuel + 1) listed a w := by
  subst hN
  obtain ⟨h1, h2⟩ := h _ (heap_alloc_new w _) ((Below.refl _ _).alloc (Nat.le_refl _) _) (by simp)
  exact takeV d hi hd hr hw hx h1 h2
theorem lea_zero {a b : Int} (h : lea a b = 0) : a = 0 ∧ b = 0 := by
  unfold lea at h
  split at h
  · exact ⟨by assumption, h⟩
  · split at h
    · omega
    · split at h <;> omega
theorem secE_zero {n : Nat} (h : secE n = 0) : 0 < n ∧ n ≤ 64 := by
  unfold secE at h
  split at h
  · omega
  · split at h <;> omega
theorem macOf_any (B : Option Addr) (n c : Nat) (z : Nat → Int) (kd : Int) (A : Option Addr) (m ck : Nat) (k : Nat → Int) (w : World) (hB : Rd w B n z) (hBn : B = none → n = 0 ∧ c = 0) (hn : 54 ≤ n) (hn2 : n ≤ 1492) (hk : Rd w A m k) (hA : A = none → m = 0 ∧ ck = 0) (hm : m ≤ 64) (hg : Rts w 0) :
    Calls Tryd.prog 41 #[.slice B n c, .int .u8 kd, .slice A m ck] w fun e w' => e = .returned (.agg (bytC 32 (hmacZ k m (blkZ (kd = 18 ∨ kd = 20) z n) n))) ∧ Below w.heap.size w w' := by
  by_cases h : kd = 18 ∨ kd = 20
  · unfold blkZ
    rw [if_pos h]
    exact macOf_2 B n c z kd A m ck k w h hB hBn hn hn2 hk hA hm hg
  · unfold blkZ
    rw [if_neg h]
    exact macOf_0 B n c z kd A m ck k w (fun e => h (.inl e)) (fun e => h (.inr e)) hB hBn hn hn2 hk hA hm hg
/-- answers, told as values -/
def SigV (w : World) (id : Nat) (z : Nat → Int) (v : Value) (w' : World) : Prop := ∃ g c, v = .agg (itC ⟨10, some ⟨g, 0, none⟩, 35, c, sigZ id z⟩) ∧ w.heap.size ≤ g ∧ Own8 w' g 35 c (sigZ id z) ∧ 35 ≤ c ∧ c ≤ maxLen ∧ Below w.heap.size w w'
theorem SigP.v {w w' : World} {id : Nat} {z : Nat → Int} {e : Ending} (h : SigP w id z e w') : ∃ v, e = .returned v ∧ SigV w id z v w' := by
  obtain ⟨g, c, rfl, h⟩ := h
  exact ⟨_, rfl, g, c, rfl, h⟩
def WithV (w : World) (p : Pd) (L : Nat → It) (t : It) (v : Value) (w' : World) : Prop := ∃ g c, v = .agg (pdC (withT p (some ⟨g, 0, none⟩) (p.m + 1) c)) ∧ w.heap.size ≤ g ∧ RdT w' (some ⟨g, 0, none⟩) (p.m + 1) (addT L p.m t) ∧ p.m + 1 ≤ c ∧ c ≤ maxLen ∧ Below w.heap.size w w'
theorem WithP.v {w w' : World} {p : Pd} {L : Nat → It} {t : It} {e : Ending} (h : WithP w p L t e w') : ∃ v, e = .returned v ∧ WithV w p L t v w' := by
  obtain ⟨g, c, rfl, h⟩ := h
  exact ⟨_, rfl, g, c, rfl, h⟩
end Go.Proofs.YtccoicjmmeoggaaDoor
