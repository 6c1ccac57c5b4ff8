/- The document's DocGetReach. Each theorem states its conditions. -/
import Derived.Test.YtplfilghhgdffaaDGetRp
namespace Go.Proofs.Ytplfilghhgdffaa
open Go.RowKit
set_option linter.unusedVariables false

set_option maxHeartbeats 8000000 in
set_option maxRecDepth 100000 in
theorem docGetReach_4 (b off n c m : Nat) (z : Nat → Int) (w : World) (hr : Row8 w b off n z) (h0 : 0 < n) (hm : LEnds (rNx 4 z) (rOk 4 z n) n m) (hn : n ≤ 255) (hc : n ≤ c) (hcm : c ≤ 9223372036854775807) :
    Calls Try.prog 21 #[.int .u8 4, .slice (some ⟨b, off, none⟩) n c] w (GLPostR w (rC 4 z) (rNx 4 z) n m) := by
  have HR := Lib.hid hr
  have HM := Lib.hid hm
  have hz := hr.2.2
  have hbl := hr.1
  have q0 : (n : Int) ≤ 255 := by omega
  clear hr hm
  go_enter Try.func21, Try.ntmps21
  go_wp2_with fail
  go_loopw [7, 8] (fun l t wr => ∃ k : Nat, k ≤ m ∧ t = .int .i64 (pos (rNx 4 z) k : Nat) ∧ Hid (wr.ownsRow w.heap.size 47 20 l k (cellsR (fun i => rC 4 z (pos (rNx 4 z) i)) k)) ∧ Hid (Below w.heap.size w wr))
    (fun _ t _ => n - (intOf t).toNat)
  case atStart => exact ⟨0, by omega, rfl, Lib.hid (World.ownsRow_nil _ _ _ _), Lib.hid (bself w)⟩
  case round =>
    obtain ⟨k, hk, rfl, HO, HW⟩ := hrel
    have hkk := Lib.hid (lends_le (steps_r 4 z n) HM.out k hk)
    have hgood := Lib.hid (fun h => gl_good (steps_r 4 z n) HM.out (k := k) h hk)
    have hbad := Lib.hid (fun h h' => gl_bad (steps_r 4 z n) HM.out (k := k) h h' hk)
    have hkm := Lib.hid (fun (h : pos (rNx 4 z) k < n) (ho : rOk 4 z n (pos (rNx 4 z) k)) => show k + 1 ≤ m by
      by_cases e : k = m
      · subst e
        rcases HM.out.2 with h' | h'
        · omega
        · exact absurd ho h'.2
      · omega)
    have hnx := Lib.hid (show pos (rNx 4 z) (k + 1) = rNx 4 z (pos (rNx 4 z) k) from rfl)
    have hcell := Lib.hid (show cellsR (fun i => rC 4 z (pos (rNx 4 z) i)) k ++ (rC 4 z (pos (rNx 4 z) k)).toList = cellsR (fun i => rC 4 z (pos (rNx 4 z) i)) (k + 1) from rfl)
    obtain ⟨FF, hF⟩ : ∃ F, cellsR (fun i => rC 4 z (pos (rNx 4 z) i)) k = F := ⟨_, rfl⟩
    rw [hF] at HO hcell
    have HF0 := Lib.hid hF
    clear hF
    have hple := hkk.out.2
    obtain ⟨p, hp⟩ : ∃ p, pos (rNx 4 z) k = p := ⟨_, rfl⟩
    rw [hp] at hple hnx hgood hbad hcell hkm
    simp only [hp]
    have HPP := Lib.hid hp
    clear hp
    have hhd : rHd 4 = 5 := rfl
    have hge := Lib.hid (by have := rnx_ge 4 z p; rw [hhd] at this; exact this)
    clear hhd
    by_cases hpn : p = n
    · subst hpn
      have hkm := hgood.out rfl
      subst hkm
      go_wp2_with fail
      go_ret2
      exact .inl ⟨HPP.out, _, rfl, by rw [HF0.out]; exact HO.out, HW.out⟩
    · have hpn' : (p : Int) < (n : Int) := by omega
      by_cases h11 : n - p < 5
      · have t1 : (n : Int) - (p : Int) < 5 := by omega
        have hb := Lib.hid (hbad.out (by omega) (fun ho => by have := ho.2; have := hge.out; omega))
        go_wp2_with fail
        go_ret2
        exact .inr ⟨hb.out, rfl, HW.out⟩
      · have t1 : ¬ (n : Int) - (p : Int) < 5 := by omega
        have hR := HR.out.below HW.out hbl
        have HRr := Lib.hid hR
        have hbr : b < wr.heap.size := hR.1
        obtain ⟨wo, rfl⟩ : ∃ wo : World, wo = wr := ⟨_, rfl⟩
        obtain ⟨V4, hV4⟩ : ∃ V, (z (p + 4)).toNat = V := ⟨_, rfl⟩
        have hV4' : z (p + 4) = (V4 : Int) := by rw [← hV4, Int.toNat_of_nonneg (hz _).1]
        have hV4b : V4 ≤ 255 := by have := hz (p + 4); omega
        have c4 := hR.2.1 (p + 4) (by omega)
        rw [hV4'] at c4
        obtain ⟨l, hl⟩ : ∃ l, V4 % 64 = l := ⟨_, rfl⟩
        have hLl : rL 4 z p = l := by unfold rL; rw [if_pos rfl, hV4, hl]
        have tl1 : (V4 : Int) % 64 = (l : Int) := by omega
        have hlbb : l ≤ 63 := by omega
        clear hl
        have HMe := Lib.hid (me_bd z p hz)
        obtain ⟨me, hme⟩ : ∃ me, (numZ (fun j => z (p + j)) 0 4).toNat = me := ⟨_, rfl⟩
        rw [hme] at HMe
        have hmeb := HMe.out
        obtain ⟨dn, hdn⟩ : ∃ dn, decide (128 ≤ V4) = dn := ⟨_, rfl⟩
        have tdn1 : decide ((128 : Int) ≤ (V4 : Int)) = dn := by rw [← hdn, decide_eq_decide]; omega
        have tdn2 := hdn
        have HRC := Lib.hid (fun (h128 : l ≤ 128) => doc_rC 4 z p l me dn hLl h128 hme (by rw [hV4]; exact hdn))
        obtain ⟨mo, hmo⟩ : ∃ mo, decide (V4 / 64 % 2 = 1) = mo := ⟨_, rfl⟩
        have tmo1 : ((V4 : Int) / 64 % 2 == 1) = mo := by
          rw [← hmo]
          by_cases e : V4 / 64 % 2 = 1
          · rw [decide_eq_true e]; simp; omega
          · rw [decide_eq_false e]; simp; omega
        have HMo : Hid (rMo 4 z p = mo) := Lib.hid (by rw [← hmo]; unfold rMo; rw [hV4]; rfl)
        have HLl := Lib.hid hLl
        have HN4 := Lib.hid (number4 b off n (c - p) p z wo HRr.out (by omega))
        rw [hme] at HN4
        have pb : (p : Int) + 4 ≤ (c : Int) := by omega
        have pn4 : (p : Int) + 4 < (n : Int) := by omega
        have pe : ¬ (c : Int) = (p : Int) := by omega
        have pe' : ¬ c = p := by omega
        have pq : (p : Int) ≤ (p : Int) + 4 := by omega
        have hsp := Lib.hid (fun i (hi : p + 5 + i < n) W (hb : Below wo.heap.size wo W) => (HRr.out.below hb hbr).2.1 (p + 5 + i) hi)
        clear hR hme hdn hmo hLl hV4 hV4' HMe
        go_wp2_with fail
        refine HN4.out.mono ?_
        rintro e w1 ⟨rfl, rfl⟩
        have HX1 := Lib.hid (IsRc.new wo rc0)
        have hall1 := Lib.hid (rcC_all ⟨0, 0, Z0, me, dn⟩)
        have HBits := Lib.hid (fun W => (bits_any 4 W).mono (fun e w' (h : _ ∧ _) => (⟨h.1, h.2.symm⟩ : e = .returned (.int .i64 (bitsI 4)) ∧ W = w')))
        have hbi : bitsI 4 = 32 := by decide
        rw [hbi] at HBits
        clear hbi
        go_wp2_with (first
          | (refine step_val (v := .agg (rcC ⟨0, 0, Z0, me, dn⟩)) (by rfl) (build_12 _ _ (.tmp 47) (.tmp 49) rfl me dn rfl rfl _) ?_)
          | (refine store_blk rfl (.tmp 10) (.tmp 50) (cells := rcC ⟨0, 0, Z0, me, dn⟩) rfl rfl rfl HX1.out info_rc rfl hall1.out ?_; intro w2 hg2 hb2 ho2; have HX2 := Lib.hid (show IsRc w2 wo.heap.size ⟨0, 0, Z0, me, dn⟩ from hg2); have HB2 := Lib.hid (((bself wo).alloc (Nat.le_refl _) (.cells (rcC rc0) 47)).trans (hb2 wo.heap.size (Nat.le_refl _))); clear hg2 hb2 ho2)
          | (refine step_val (v := .agg (pvC 4 (l : Int) Z0)) (by rfl) (build_head _ _ (.tmp 69) (.tmp 70) rfl 4 (l : Int) rfl rfl _) ?_)
          | (refine store_pvrc (fam := 4) (len := (l : Int)) (z := Z0) rfl (.tmp 72) (.tmp 71) rfl rfl rfl HX2.out ?_; intro w3 hg3 hb3; refine Hid.out ?_))
        refine Lib.hid ?_
        have HX3 := Lib.hid hg3
        have HB3 := Lib.hid (HB2.out.trans (hb3 wo.heap.size (Nat.le_refl _)))
        clear hg3 hb3 HX1 HX2 HB2 c4
        go_wp2_with fail
        refine (HBits.out _).mono ?_
        rintro e w3a ⟨rfl, rfl⟩
        by_cases hlb : l ≤ 32
        · have tl : (l : Int) ≤ 32 := by omega
          have hl255 : l ≤ 255 := by omega
          have HSz := Lib.hid (fun W => size_any l W hl255)
          have hsized : Hid (Sized 4 (l : Int)) := Lib.hid (by unfold Sized; omega)
          have hnd : nd l ≤ 16 := nd_le l (by omega) (by omega)
          obtain ⟨N, hN⟩ : ∃ N, nd l = N := ⟨_, rfl⟩
          have HNN := Lib.hid hN
          rw [hN] at hnd
          have HSz' : Hid (∀ W, Calls Try.prog 38 #[.int .i64 (l : Int)] W fun e w' => e = .returned (.int .i64 (N : Int)) ∧ W = w') := Lib.hid (fun W => by rw [← hN]; exact HSz.out W)
          clear HSz hN
          go_wp2_with fail
          refine (HSz'.out _).mono ?_
          rintro e w3b ⟨rfl, rfl⟩
          by_cases hrem : n - (p + 5) < N
          · have t2 : (n : Int) - ((p : Int) + 5) < (N : Int) := by omega
            have hb := Lib.hid (hbad.out (by omega) (fun ho => by have := ho.2; have := hge.out; rw [HLl.out, HNN.out] at this; omega))
            have HBw := Lib.hid (HW.out.trans (HB3.out.mono HW.out.size))
            go_wp2_with fail
            go_ret2
            exact .inr ⟨hb.out, rfl, HBw.out⟩
          · have t2 : ¬ (n : Int) - ((p : Int) + 5) < (N : Int) := by omega
            have hq : Hid (p + 5 + N ≤ n) := Lib.hid (by omega)
            go_wp2_with fail
            refine (HSz'.out _).mono ?_
            rintro e w3c ⟨rfl, rfl⟩
            have HX30 : Hid (IsRc w3 wo.heap.size ⟨4, (l : Int), headZ z (p + 5) 0, me, dn⟩) := Lib.hid HX3.out
            go_wp2_with fail
            go_loopw [91] (fun t wr => ∃ i : Nat, i ≤ N ∧ t = .int .i64 i ∧ Hid (IsRc wr wo.heap.size ⟨4, (l : Int), headZ z (p + 5) i, me, dn⟩) ∧ Hid (Below wo.heap.size wo wr))
              (fun t _ => N - (intOf t).toNat)
            case atStart => exact ⟨0, by omega, rfl, HX30, HB3⟩
            case round =>
              obtain ⟨i, hi, rfl, HX, HB⟩ := hrel
              clear HX3 HX30 HB3
              by_cases hiN : i < N
              · have ci := hsp.out i (by have := hq.out; omega) _ HB.out
                have hi16 : (i : Int) < 16 := by omega
                have hiN' : (i : Int) < (N : Int) := by omega
                have hpi : (p : Int) + 5 + (i : Int) < (n : Int) := by have := hq.out; omega
                have cx := (HX.out.at (2 + i)).trans (head_atR 4 (l : Int) z (p + 5) i me dn (by omega))
                have fx := isRc_free HX.out (2 + i)
                have HX' := Lib.hid (isRc_put HX.out (show i < 16 by omega))
                have HB' := Lib.hid (HB.out.setCell (p := ⟨wo.heap.size, 2 + i, none⟩) (Nat.le_refl _) (.int .u8 (z (p + 5 + i))))
                go_wp2_with fail
                go_roundw
                case rel => exact ⟨i + 1, by omega, by go_num, HX', HB'⟩
                case measure => simp only [intOf]; omega
              · obtain rfl : i = N := by omega
                have HP := Lib.hid HX.out.pv
                have HFst := Lib.hid (fun W => ref_first 4 (l : Int) l (headZ z (p + 5) i) W (headZ_bd z _ _ hz) (by omega))
                go_wp2_with (first | (refine load_row_w (by rfl) 45 (.tmp 105) rfl wo.heap.size 0 rfl _ _ HP.out Try.underlying45 rfl (hi_pv 4 (l : Int) (headZ z (p + 5) i)) ?_))
                refine (HFst.out _).mono ?_
                rintro e w5 ⟨rfl, hb5⟩
                have HX5 := Lib.hid (HX.out.below hb5 HX.out.lt)
                have HB5 := Lib.hid (HB.out.trans (hb5.mono HB.out.size))
                clear hb5 HP HX HB HFst
                go_wp2_with (first | (refine store_pvrc (fam := 4) (len := (l : Int)) (z := firstZ (headZ z (p + 5) i) l) rfl (.tmp 109) (.tmp 108) rfl rfl rfl HX5.out ?_; intro w6 hg6 hb6; refine Hid.out ?_))
                refine Lib.hid ?_
                obtain ⟨r, hrr⟩ : ∃ r, (⟨4, (l : Int), firstZ (headZ z (p + 5) i) l, me, dn⟩ : Rc) = r := ⟨_, rfl⟩
                have HCr : Hid (rcC r = rC 4 z p) := Lib.hid (by
                  rw [← hrr, ← HNN.out]
                  exact HRC.out (by omega))
                have hg6' : IsRc w6 wo.heap.size r := by rw [← hrr]; exact hg6
                have HX6 := Lib.hid hg6'
                have HB6 := Lib.hid (HB5.out.trans (hb6 wo.heap.size (Nat.le_refl _)))
                have hX6s : wo.heap.size < w6.heap.size := hg6'.lt
                clear hg6 hg6' hb6 HX5 HB5 hrr HRC
                go_wp2_with fail
                refine (HSz'.out _).mono ?_
                rintro e w6' ⟨rfl, rfl⟩
                have hC20 : (rcC r).size = 20 := rfl
                have hk255 : Hid (k ≤ 255) := Lib.hid (by have := hkk.out; omega)
                have hO6 := Lib.hid (ownsRow_below' HO.out HB6.out)
                have hB6w := Lib.hid (HW.out.trans (HB6.out.mono HW.out.size))
                cases mo
                · have hnxt : Hid (p + 5 + i = pos (rNx 4 z) (k + 1)) := Lib.hid (by
                    rw [hnx.out]
                    unfold rNx
                    rw [HMo.out, HLl.out, HNN.out]
                    rfl)
                  have hk1 : Hid (k + 1 ≤ m) := Lib.hid (hkm.out (by omega) ⟨by rw [HLl.out]; exact hsized.out, by rw [← hnx.out, ← hnxt.out]; exact hq.out⟩)
                  go_wp2_with (first
                    | (refine load_rc rfl (.tmp 10) rfl rfl HX6.out ?_)
                    | (refine step_valW (v := .slice (some ⟨w6.heap.size, 0, none⟩) 1 1) (w' := w6.alloc (.cells (rcC r) 47)) (by rfl) (by go_simp; rw [fold_set _ _ 20 hC20 (by simp)]) ?_)
                    | (at_builtin; refine app_R rfl (.tmp 140) (.tmp 142) rfl w u7 k FF rfl (hO6.out.alloc _) (hB6w.out.alloc hB6w.out.size _) (some ⟨w6.heap.size, 0, none⟩) 1 1 (fun _ => rcC r) rfl (rdR_one' (heap_alloc_new _ _)) (fun e => by cases e) (fun _ => ⟨rfl, rcC_one _⟩) (by have := hk255.out; omega) ?_; intro v8 w8 ho8 hb8 hs8 hk8))
                  have HO8 := Lib.hid ho8
                  have HB8 := Lib.hid hb8
                  clear ho8 hb8 hs8 hk8
                  go_wp2_with fail
                  go_roundw
                  case rel =>
                    have hfin : Hid (w8.ownsRow w.heap.size 47 20 v8 (k + 1) (cellsR (fun i => rC 4 z (pos (rNx 4 z) i)) (k + 1))) := Lib.hid (by
                      have h := HO8.out
                      rw [← hcell.out, ← HCr.out]
                      exact h)
                    first | exact ⟨k + 1, hk1.out, by rw [← hnxt.out]; go_num, hfin, HB8⟩ | exact ⟨_, _, _, ⟨k + 1, hk1.out, by rw [← hnxt.out]; go_num, hfin, HB8⟩, rfl, rfl, rfl⟩ | ((repeat apply Exists.intro); exact ⟨⟨k + 1, hk1.out, by rw [← hnxt.out]; go_num, hfin, HB8⟩, rfl⟩)
                  case measure => simp only [intOf]; omega
                · by_cases hat : p + 5 + i < n
                  · obtain ⟨V, hV⟩ : ∃ V, (z (p + 5 + i)).toNat = V := ⟨_, rfl⟩
                    have hV' : z (p + 5 + i) = (V : Int) := by rw [← hV, Int.toNat_of_nonneg (hz _).1]
                    have hVb : V ≤ 255 := by have := hz (p + 5 + i); omega
                    have cV := hsp.out i hat _ HB6.out
                    rw [hV'] at cV
                    have hat' : (p : Int) + 5 + (i : Int) < (n : Int) := by omega
                    have hnxt : Hid (p + 5 + i + (1 + V) = pos (rNx 4 z) (k + 1)) := Lib.hid (by
                      rw [hnx.out]
                      unfold rNx
                      rw [HMo.out, HLl.out, HNN.out, if_pos rfl]
                      show _ = p + 5 + i + (1 + (z (p + 5 + i)).toNat)
                      rw [hV])
                    have HVV := Lib.hid hV
                    clear hV hV'
                    by_cases hv : p + 5 + i + (1 + V) ≤ n
                    · have t5 : ¬ (n : Int) - ((p : Int) + 5 + (i : Int)) - 1 < (V : Int) := by omega
                      have hk1 : Hid (k + 1 ≤ m) := Lib.hid (hkm.out (by omega) ⟨by rw [HLl.out]; exact hsized.out, by rw [← hnx.out, ← hnxt.out]; exact hv⟩)
                      go_wp2_with (first
                        | (refine load_rc rfl (.tmp 10) rfl rfl HX6.out ?_)
                        | (refine step_valW (v := .slice (some ⟨w6.heap.size, 0, none⟩) 1 1) (w' := w6.alloc (.cells (rcC r) 47)) (by rfl) (by go_simp; rw [fold_set _ _ 20 hC20 (by simp)]) ?_)
                        | (at_builtin; refine app_R rfl (.tmp 140) (.tmp 142) rfl w u7 k FF rfl (hO6.out.alloc _) (hB6w.out.alloc hB6w.out.size _) (some ⟨w6.heap.size, 0, none⟩) 1 1 (fun _ => rcC r) rfl (rdR_one' (heap_alloc_new _ _)) (fun e => by cases e) (fun _ => ⟨rfl, rcC_one _⟩) (by have := hk255.out; omega) ?_; intro v8 w8 ho8 hb8 hs8 hk8))
                      have HO8 := Lib.hid ho8
                      have HB8 := Lib.hid hb8
                      clear ho8 hb8 hs8 hk8
                      go_wp2_with fail
                      go_roundw
                      case rel =>
                        have hfin : Hid (w8.ownsRow w.heap.size 47 20 v8 (k + 1) (cellsR (fun i => rC 4 z (pos (rNx 4 z) i)) (k + 1))) := Lib.hid (by
                          have h := HO8.out
                          rw [← hcell.out, ← HCr.out]
                          exact h)
                        first | exact ⟨k + 1, hk1.out, by rw [← hnxt.out]; go_num, hfin, HB8⟩ | exact ⟨_, _, _, ⟨k + 1, hk1.out, by rw [← hnxt.out]; go_num, hfin, HB8⟩, rfl, rfl, rfl⟩ | ((repeat apply Exists.intro); exact ⟨⟨k + 1, hk1.out, by rw [← hnxt.out]; go_num, hfin, HB8⟩, rfl⟩)
                      case measure => simp only [intOf]; omega
                    · have t5 : (n : Int) - ((p : Int) + 5 + (i : Int)) - 1 < (V : Int) := by omega
                      have hb := Lib.hid (hbad.out (by omega) (fun ho => by have := ho.2; rw [← hnx.out, ← hnxt.out] at this; omega))
                      go_wp2_with fail
                      go_ret2
                      exact .inr ⟨hb.out, rfl, hB6w.out⟩
                  · have hat' : (n : Int) ≤ (p : Int) + 5 + (i : Int) := by omega
                    have hb := Lib.hid (hbad.out (by omega) (fun ho => by
                      have := ho.2
                      unfold rNx at this
                      rw [HMo.out, HLl.out, HNN.out, if_pos rfl] at this
                      have e : rHd 4 = 5 := rfl
                      rw [e] at this
                      omega))
                    go_wp2_with fail
                    go_ret2
                    exact .inr ⟨hb.out, rfl, hB6w.out⟩
        · have tl : (32 : Int) < (l : Int) := by omega
          have hb := Lib.hid (hbad.out (by omega) (fun ho => by have h := ho.1; rw [HLl.out] at h; unfold Sized at h; omega))
          have HBw := Lib.hid (HW.out.trans (HB3.out.mono HW.out.size))
          go_wp2_with fail
          go_ret2
          exact .inr ⟨hb.out, rfl, HBw.out⟩

set_option maxHeartbeats 8000000 in
set_option maxRecDepth 100000 in
theorem docGetReach_6 (b off n c m : Nat) (z : Nat → Int) (w : World) (hr : Row8 w b off n z) (h0 : 0 < n) (hm : LEnds (rNx 6 z) (rOk 6 z n) n m) (hn : n ≤ 255) (hc : n ≤ c) (hcm : c ≤ 9223372036854775807) :
    Calls Try.prog 21 #[.int .u8 6, .slice (some ⟨b, off, none⟩) n c] w (GLPostR w (rC 6 z) (rNx 6 z) n m) := by
  have HR := Lib.hid hr
  have HM := Lib.hid hm
  have hz := hr.2.2
  have hbl := hr.1
  have q0 : (n : Int) ≤ 255 := by omega
  clear hr hm
  go_enter Try.func21, Try.ntmps21
  go_wp2_with fail
  go_loopw [7, 8] (fun l t wr => ∃ k : Nat, k ≤ m ∧ t = .int .i64 (pos (rNx 6 z) k : Nat) ∧ Hid (wr.ownsRow w.heap.size 47 20 l k (cellsR (fun i => rC 6 z (pos (rNx 6 z) i)) k)) ∧ Hid (Below w.heap.size w wr))
    (fun _ t _ => n - (intOf t).toNat)
  case atStart => exact ⟨0, by omega, rfl, Lib.hid (World.ownsRow_nil _ _ _ _), Lib.hid (bself w)⟩
  case round =>
    obtain ⟨k, hk, rfl, HO, HW⟩ := hrel
    have hkk := Lib.hid (lends_le (steps_r 6 z n) HM.out k hk)
    have hgood := Lib.hid (fun h => gl_good (steps_r 6 z n) HM.out (k := k) h hk)
    have hbad := Lib.hid (fun h h' => gl_bad (steps_r 6 z n) HM.out (k := k) h h' hk)
    have hkm := Lib.hid (fun (h : pos (rNx 6 z) k < n) (ho : rOk 6 z n (pos (rNx 6 z) k)) => show k + 1 ≤ m by
      by_cases e : k = m
      · subst e
        rcases HM.out.2 with h' | h'
        · omega
        · exact absurd ho h'.2
      · omega)
    have hnx := Lib.hid (show pos (rNx 6 z) (k + 1) = rNx 6 z (pos (rNx 6 z) k) from rfl)
    have hcell := Lib.hid (show cellsR (fun i => rC 6 z (pos (rNx 6 z) i)) k ++ (rC 6 z (pos (rNx 6 z) k)).toList = cellsR (fun i => rC 6 z (pos (rNx 6 z) i)) (k + 1) from rfl)
    obtain ⟨FF, hF⟩ : ∃ F, cellsR (fun i => rC 6 z (pos (rNx 6 z) i)) k = F := ⟨_, rfl⟩
    rw [hF] at HO hcell
    have HF0 := Lib.hid hF
    clear hF
    have hple := hkk.out.2
    obtain ⟨p, hp⟩ : ∃ p, pos (rNx 6 z) k = p := ⟨_, rfl⟩
    rw [hp] at hple hnx hgood hbad hcell hkm
    simp only [hp]
    have HPP := Lib.hid hp
    clear hp
    have hhd : rHd 6 = 6 := rfl
    have hge := Lib.hid (by have := rnx_ge 6 z p; rw [hhd] at this; exact this)
    clear hhd
    by_cases hpn : p = n
    · subst hpn
      have hkm := hgood.out rfl
      subst hkm
      go_wp2_with fail
      go_ret2
      exact .inl ⟨HPP.out, _, rfl, by rw [HF0.out]; exact HO.out, HW.out⟩
    · have hpn' : (p : Int) < (n : Int) := by omega
      by_cases h11 : n - p < 6
      · have t1 : (n : Int) - (p : Int) < 6 := by omega
        have hb := Lib.hid (hbad.out (by omega) (fun ho => by have := ho.2; have := hge.out; omega))
        go_wp2_with fail
        go_ret2
        exact .inr ⟨hb.out, rfl, HW.out⟩
      · have t1 : ¬ (n : Int) - (p : Int) < 6 := by omega
        have hR := HR.out.below HW.out hbl
        have HRr := Lib.hid hR
        have hbr : b < wr.heap.size := hR.1
        obtain ⟨wo, rfl⟩ : ∃ wo : World, wo = wr := ⟨_, rfl⟩
        obtain ⟨V4, hV4⟩ : ∃ V, (z (p + 4)).toNat = V := ⟨_, rfl⟩
        have hV4' : z (p + 4) = (V4 : Int) := by rw [← hV4, Int.toNat_of_nonneg (hz _).1]
        have hV4b : V4 ≤ 255 := by have := hz (p + 4); omega
        have c4 := hR.2.1 (p + 4) (by omega)
        rw [hV4'] at c4
        obtain ⟨l, hl⟩ : ∃ l, (z (p + 5)).toNat = l := ⟨_, rfl⟩
        have hLl : rL 6 z p = l := by unfold rL; rw [if_neg (by decide), hl]
        have hl' : z (p + 5) = (l : Int) := by rw [← hl, Int.toNat_of_nonneg (hz _).1]
        have hlbb : l ≤ 255 := by have := hz (p + 5); omega
        have pn5 : (p : Int) + 5 < (n : Int) := by omega
        clear hl
        have HMe := Lib.hid (me_bd z p hz)
        obtain ⟨me, hme⟩ : ∃ me, (numZ (fun j => z (p + j)) 0 4).toNat = me := ⟨_, rfl⟩
        rw [hme] at HMe
        have hmeb := HMe.out
        obtain ⟨dn, hdn⟩ : ∃ dn, decide (128 ≤ V4) = dn := ⟨_, rfl⟩
        have tdn1 : decide ((128 : Int) ≤ (V4 : Int)) = dn := by rw [← hdn, decide_eq_decide]; omega
        have tdn2 := hdn
        have HRC := Lib.hid (fun (h128 : l ≤ 128) => doc_rC 6 z p l me dn hLl h128 hme (by rw [hV4]; exact hdn))
        obtain ⟨mo, hmo⟩ : ∃ mo, decide (V4 / 32 % 2 = 1) = mo := ⟨_, rfl⟩
        have tmo1 : ((V4 : Int) / 32 % 2 == 1) = mo := by
          rw [← hmo]
          by_cases e : V4 / 32 % 2 = 1
          · rw [decide_eq_true e]; simp; omega
          · rw [decide_eq_false e]; simp; omega
        have HMo : Hid (rMo 6 z p = mo) := Lib.hid (by rw [← hmo]; unfold rMo; rw [hV4]; rfl)
        have HLl := Lib.hid hLl
        have HN4 := Lib.hid (number4 b off n (c - p) p z wo HRr.out (by omega))
        rw [hme] at HN4
        have pb : (p : Int) + 4 ≤ (c : Int) := by omega
        have pn4 : (p : Int) + 4 < (n : Int) := by omega
        have pe : ¬ (c : Int) = (p : Int) := by omega
        have pe' : ¬ c = p := by omega
        have pq : (p : Int) ≤ (p : Int) + 4 := by omega
        have hsp := Lib.hid (fun i (hi : p + 6 + i < n) W (hb : Below wo.heap.size wo W) => (HRr.out.below hb hbr).2.1 (p + 6 + i) hi)
        clear hR hme hdn hmo hLl hV4 hV4' HMe
        go_wp2_with fail
        refine HN4.out.mono ?_
        rintro e w1 ⟨rfl, rfl⟩
        have HX1 := Lib.hid (IsRc.new wo rc0)
        have hall1 := Lib.hid (rcC_all ⟨0, 0, Z0, me, dn⟩)
        have HBits := Lib.hid (fun W => (bits_any 6 W).mono (fun e w' (h : _ ∧ _) => (⟨h.1, h.2.symm⟩ : e = .returned (.int .i64 (bitsI 6)) ∧ W = w')))
        have hbi : bitsI 6 = 128 := by decide
        rw [hbi] at HBits
        clear hbi
        go_wp2_with (first
          | (refine step_val (v := .agg (rcC ⟨0, 0, Z0, me, dn⟩)) (by rfl) (build_12 _ _ (.tmp 47) (.tmp 49) rfl me dn rfl rfl _) ?_)
          | (refine store_blk rfl (.tmp 10) (.tmp 50) (cells := rcC ⟨0, 0, Z0, me, dn⟩) rfl rfl rfl HX1.out info_rc rfl hall1.out ?_; intro w2 hg2 hb2 ho2; have HX2 := Lib.hid (show IsRc w2 wo.heap.size ⟨0, 0, Z0, me, dn⟩ from hg2); have HB2 := Lib.hid (((bself wo).alloc (Nat.le_refl _) (.cells (rcC rc0) 47)).trans (hb2 wo.heap.size (Nat.le_refl _))); have c5 := (HRr.out.below HB2.out hbr).2.1 (p + 5) (by omega); rw [hl'] at c5; clear hg2 hb2 ho2)
          | (refine step_val (v := .agg (pvC 6 (l : Int) Z0)) (by rfl) (build_head _ _ (.tmp 69) (.tmp 70) rfl 6 (l : Int) rfl rfl _) ?_)
          | (refine store_pvrc (fam := 6) (len := (l : Int)) (z := Z0) rfl (.tmp 72) (.tmp 71) rfl rfl rfl HX2.out ?_; intro w3 hg3 hb3; refine Hid.out ?_))
        refine Lib.hid ?_
        have HX3 := Lib.hid hg3
        have HB3 := Lib.hid (HB2.out.trans (hb3 wo.heap.size (Nat.le_refl _)))
        clear hg3 hb3 HX1 HX2 HB2 c4
        go_wp2_with fail
        refine (HBits.out _).mono ?_
        rintro e w3a ⟨rfl, rfl⟩
        by_cases hlb : l ≤ 128
        · have tl : (l : Int) ≤ 128 := by omega
          have hl255 : l ≤ 255 := by omega
          have HSz := Lib.hid (fun W => size_any l W hl255)
          have hsized : Hid (Sized 6 (l : Int)) := Lib.hid (by unfold Sized; omega)
          have hnd : nd l ≤ 16 := nd_le l (by omega) (by omega)
          obtain ⟨N, hN⟩ : ∃ N, nd l = N := ⟨_, rfl⟩
          have HNN := Lib.hid hN
          rw [hN] at hnd
          have HSz' : Hid (∀ W, Calls Try.prog 38 #[.int .i64 (l : Int)] W fun e w' => e = .returned (.int .i64 (N : Int)) ∧ W = w') := Lib.hid (fun W => by rw [← hN]; exact HSz.out W)
          clear HSz hN
          go_wp2_with fail
          refine (HSz'.out _).mono ?_
          rintro e w3b ⟨rfl, rfl⟩
          by_cases hrem : n - (p + 6) < N
          · have t2 : (n : Int) - ((p : Int) + 6) < (N : Int) := by omega
            have hb := Lib.hid (hbad.out (by omega) (fun ho => by have := ho.2; have := hge.out; rw [HLl.out, HNN.out] at this; omega))
            have HBw := Lib.hid (HW.out.trans (HB3.out.mono HW.out.size))
            go_wp2_with fail
            go_ret2
            exact .inr ⟨hb.out, rfl, HBw.out⟩
          · have t2 : ¬ (n : Int) - ((p : Int) + 6) < (N : Int) := by omega
            have hq : Hid (p + 6 + N ≤ n) := Lib.hid (by omega)
            go_wp2_with fail
            refine (HSz'.out _).mono ?_
            rintro e w3c ⟨rfl, rfl⟩
            have HX30 : Hid (IsRc w3 wo.heap.size ⟨6, (l : Int), headZ z (p + 6) 0, me, dn⟩) := Lib.hid HX3.out
            go_wp2_with fail
            go_loopw [91] (fun t wr => ∃ i : Nat, i ≤ N ∧ t = .int .i64 i ∧ Hid (IsRc wr wo.heap.size ⟨6, (l : Int), headZ z (p + 6) i, me, dn⟩) ∧ Hid (Below wo.heap.size wo wr))
              (fun t _ => N - (intOf t).toNat)
            case atStart => exact ⟨0, by omega, rfl, HX30, HB3⟩
            case round =>
              obtain ⟨i, hi, rfl, HX, HB⟩ := hrel
              clear HX3 HX30 HB3
              by_cases hiN : i < N
              · have ci := hsp.out i (by have := hq.out; omega) _ HB.out
                have hi16 : (i : Int) < 16 := by omega
                have hiN' : (i : Int) < (N : Int) := by omega
                have hpi : (p : Int) + 6 + (i : Int) < (n : Int) := by have := hq.out; omega
                have cx := (HX.out.at (2 + i)).trans (head_atR 6 (l : Int) z (p + 6) i me dn (by omega))
                have fx := isRc_free HX.out (2 + i)
                have HX' := Lib.hid (isRc_put HX.out (show i < 16 by omega))
                have HB' := Lib.hid (HB.out.setCell (p := ⟨wo.heap.size, 2 + i, none⟩) (Nat.le_refl _) (.int .u8 (z (p + 6 + i))))
                go_wp2_with fail
                go_roundw
                case rel => exact ⟨i + 1, by omega, by go_num, HX', HB'⟩
                case measure => simp only [intOf]; omega
              · obtain rfl : i = N := by omega
                have HP := Lib.hid HX.out.pv
                have HFst := Lib.hid (fun W => ref_first 6 (l : Int) l (headZ z (p + 6) i) W (headZ_bd z _ _ hz) (by omega))
                go_wp2_with (first | (refine load_row_w (by rfl) 45 (.tmp 105) rfl wo.heap.size 0 rfl _ _ HP.out Try.underlying45 rfl (hi_pv 6 (l : Int) (headZ z (p + 6) i)) ?_))
                refine (HFst.out _).mono ?_
                rintro e w5 ⟨rfl, hb5⟩
                have HX5 := Lib.hid (HX.out.below hb5 HX.out.lt)
                have HB5 := Lib.hid (HB.out.trans (hb5.mono HB.out.size))
                clear hb5 HP HX HB HFst
                go_wp2_with (first | (refine store_pvrc (fam := 6) (len := (l : Int)) (z := firstZ (headZ z (p + 6) i) l) rfl (.tmp 109) (.tmp 108) rfl rfl rfl HX5.out ?_; intro w6 hg6 hb6; refine Hid.out ?_))
                refine Lib.hid ?_
                obtain ⟨r, hrr⟩ : ∃ r, (⟨6, (l : Int), firstZ (headZ z (p + 6) i) l, me, dn⟩ : Rc) = r := ⟨_, rfl⟩
                have HCr : Hid (rcC r = rC 6 z p) := Lib.hid (by
                  rw [← hrr, ← HNN.out]
                  exact HRC.out (by omega))
                have hg6' : IsRc w6 wo.heap.size r := by rw [← hrr]; exact hg6
                have HX6 := Lib.hid hg6'
                have HB6 := Lib.hid (HB5.out.trans (hb6 wo.heap.size (Nat.le_refl _)))
                have hX6s : wo.heap.size < w6.heap.size := hg6'.lt
                clear hg6 hg6' hb6 HX5 HB5 hrr HRC
                go_wp2_with fail
                refine (HSz'.out _).mono ?_
                rintro e w6' ⟨rfl, rfl⟩
                have hC20 : (rcC r).size = 20 := rfl
                have hk255 : Hid (k ≤ 255) := Lib.hid (by have := hkk.out; omega)
                have hO6 := Lib.hid (ownsRow_below' HO.out HB6.out)
                have hB6w := Lib.hid (HW.out.trans (HB6.out.mono HW.out.size))
                cases mo
                · have hnxt : Hid (p + 6 + i = pos (rNx 6 z) (k + 1)) := Lib.hid (by
                    rw [hnx.out]
                    unfold rNx
                    rw [HMo.out, HLl.out, HNN.out]
                    rfl)
                  have hk1 : Hid (k + 1 ≤ m) := Lib.hid (hkm.out (by omega) ⟨by rw [HLl.out]; exact hsized.out, by rw [← hnx.out, ← hnxt.out]; exact hq.out⟩)
                  go_wp2_with (first
                    | (refine load_rc rfl (.tmp 10) rfl rfl HX6.out ?_)
                    | (refine step_valW (v := .slice (some ⟨w6.heap.size, 0, none⟩) 1 1) (w' := w6.alloc (.cells (rcC r) 47)) (by rfl) (by go_simp; rw [fold_set _ _ 20 hC20 (by simp)]) ?_)
                    | (at_builtin; refine app_R rfl (.tmp 140) (.tmp 142) rfl w u7 k FF rfl (hO6.out.alloc _) (hB6w.out.alloc hB6w.out.size _) (some ⟨w6.heap.size, 0, none⟩) 1 1 (fun _ => rcC r) rfl (rdR_one' (heap_alloc_new _ _)) (fun e => by cases e) (fun _ => ⟨rfl, rcC_one _⟩) (by have := hk255.out; omega) ?_; intro v8 w8 ho8 hb8 hs8 hk8))
                  have HO8 := Lib.hid ho8
                  have HB8 := Lib.hid hb8
                  clear ho8 hb8 hs8 hk8
                  go_wp2_with fail
                  go_roundw
                  case rel =>
                    have hfin : Hid (w8.ownsRow w.heap.size 47 20 v8 (k + 1) (cellsR (fun i => rC 6 z (pos (rNx 6 z) i)) (k + 1))) := Lib.hid (by
                      have h := HO8.out
                      rw [← hcell.out, ← HCr.out]
                      exact h)
                    first | exact ⟨k + 1, hk1.out, by rw [← hnxt.out]; go_num, hfin, HB8⟩ | exact ⟨_, _, _, ⟨k + 1, hk1.out, by rw [← hnxt.out]; go_num, hfin, HB8⟩, rfl, rfl, rfl⟩ | ((repeat apply Exists.intro); exact ⟨⟨k + 1, hk1.out, by rw [← hnxt.out]; go_num, hfin, HB8⟩, rfl⟩)
                  case measure => simp only [intOf]; omega
                · by_cases hat : p + 6 + i < n
                  · obtain ⟨V, hV⟩ : ∃ V, (z (p + 6 + i)).toNat = V := ⟨_, rfl⟩
                    have hV' : z (p + 6 + i) = (V : Int) := by rw [← hV, Int.toNat_of_nonneg (hz _).1]
                    have hVb : V ≤ 255 := by have := hz (p + 6 + i); omega
                    have cV := hsp.out i hat _ HB6.out
                    rw [hV'] at cV
                    have hat' : (p : Int) + 6 + (i : Int) < (n : Int) := by omega
                    have hnxt : Hid (p + 6 + i + (1 + V) = pos (rNx 6 z) (k + 1)) := Lib.hid (by
                      rw [hnx.out]
                      unfold rNx
                      rw [HMo.out, HLl.out, HNN.out, if_pos rfl]
                      show _ = p + 6 + i + (1 + (z (p + 6 + i)).toNat)
                      rw [hV])
                    have HVV := Lib.hid hV
                    clear hV hV'
                    by_cases hv : p + 6 + i + (1 + V) ≤ n
                    · have t5 : ¬ (n : Int) - ((p : Int) + 6 + (i : Int)) - 1 < (V : Int) := by omega
                      have hk1 : Hid (k + 1 ≤ m) := Lib.hid (hkm.out (by omega) ⟨by rw [HLl.out]; exact hsized.out, by rw [← hnx.out, ← hnxt.out]; exact hv⟩)
                      go_wp2_with (first
                        | (refine load_rc rfl (.tmp 10) rfl rfl HX6.out ?_)
                        | (refine step_valW (v := .slice (some ⟨w6.heap.size, 0, none⟩) 1 1) (w' := w6.alloc (.cells (rcC r) 47)) (by rfl) (by go_simp; rw [fold_set _ _ 20 hC20 (by simp)]) ?_)
                        | (at_builtin; refine app_R rfl (.tmp 140) (.tmp 142) rfl w u7 k FF rfl (hO6.out.alloc _) (hB6w.out.alloc hB6w.out.size _) (some ⟨w6.heap.size, 0, none⟩) 1 1 (fun _ => rcC r) rfl (rdR_one' (heap_alloc_new _ _)) (fun e => by cases e) (fun _ => ⟨rfl, rcC_one _⟩) (by have := hk255.out; omega) ?_; intro v8 w8 ho8 hb8 hs8 hk8))
                      have HO8 := Lib.hid ho8
                      have HB8 := Lib.hid hb8
                      clear ho8 hb8 hs8 hk8
                      go_wp2_with fail
                      go_roundw
                      case rel =>
                        have hfin : Hid (w8.ownsRow w.heap.size 47 20 v8 (k + 1) (cellsR (fun i => rC 6 z (pos (rNx 6 z) i)) (k + 1))) := Lib.hid (by
                          have h := HO8.out
                          rw [← hcell.out, ← HCr.out]
                          exact h)
                        first | exact ⟨k + 1, hk1.out, by rw [← hnxt.out]; go_num, hfin, HB8⟩ | exact ⟨_, _, _, ⟨k + 1, hk1.out, by rw [← hnxt.out]; go_num, hfin, HB8⟩, rfl, rfl, rfl⟩ | ((repeat apply Exists.intro); exact ⟨⟨k + 1, hk1.out, by rw [← hnxt.out]; go_num, hfin, HB8⟩, rfl⟩)
                      case measure => simp only [intOf]; omega
                    · have t5 : (n : Int) - ((p : Int) + 6 + (i : Int)) - 1 < (V : Int) := by omega
                      have hb := Lib.hid (hbad.out (by omega) (fun ho => by have := ho.2; rw [← hnx.out, ← hnxt.out] at this; omega))
                      go_wp2_with fail
                      go_ret2
                      exact .inr ⟨hb.out, rfl, hB6w.out⟩
                  · have hat' : (n : Int) ≤ (p : Int) + 6 + (i : Int) := by omega
                    have hb := Lib.hid (hbad.out (by omega) (fun ho => by
                      have := ho.2
                      unfold rNx at this
                      rw [HMo.out, HLl.out, HNN.out, if_pos rfl] at this
                      have e : rHd 6 = 6 := rfl
                      rw [e] at this
                      omega))
                    go_wp2_with fail
                    go_ret2
                    exact .inr ⟨hb.out, rfl, hB6w.out⟩
        · have tl : (128 : Int) < (l : Int) := by omega
          have hb := Lib.hid (hbad.out (by omega) (fun ho => by have h := ho.1; rw [HLl.out] at h; unfold Sized at h; omega))
          have HBw := Lib.hid (HW.out.trans (HB3.out.mono HW.out.size))
          go_wp2_with fail
          go_ret2
          exact .inr ⟨hb.out, rfl, HBw.out⟩
end Go.Proofs.Ytplfilghhgdffaa
