/- The walk of ReachJoins: for every input the law returns true, and nothing that was there is written. No condition. -/
import Derived.Test.YtplfilghhgdffaaAppW
import Derived.Deep.DeepCutAuto
namespace Go.Proofs.Ytplfilghhgdffaa
open Go.RowKit
set_option linter.unusedVariables false

set_option maxHeartbeats 4000000 in
set_option maxRecDepth 100000 in
theorem joins_any (a0 : Option Addr) (len0 cap0 : Nat) (L0 : Nat → Ed) (a1 : Option Addr) (len1 cap1 : Nat) (L1 : Nat → Ed) (V r : Nat) (a3 : Option Addr) (len3 cap3 : Nat) (L3 : Nat → Rc) (a4 : Option Addr) (len4 cap4 : Nat) (L4 : Nat → Rc) (w : World)
    (w0 : InE w a0 len0 cap0 L0) (w1 : InE w a1 len1 cap1 L1) (hV : V ≤ 255) (hr : V % 2 = r) (w3 : InR w a3 len3 cap3 L3) (w4 : InR w a4 len4 cap4 L4) :
    Calls Try.prog 7 #[.slice a0 len0 cap0, .slice a1 len1 cap1, .int .u8 (V : Int), .slice a3 len3 cap3, .slice a4 len4 cap4] w fun e w' => e = .returned (.bool true) ∧ Below w.heap.size w w' := by
  obtain ⟨h1, h2, h3, h4, h5⟩ := w0
  obtain ⟨g1, g2, g3, g4, g5⟩ := w1
  obtain ⟨i1, i2, i3, i4, i5⟩ := w3
  obtain ⟨j1, j2, j3, j4, j5⟩ := w4
  have HA0 := Lib.hid h3
  have HR0 := Lib.hid h1
  have HK0 := Lib.hid h2
  have HA1 := Lib.hid g3
  have HR1 := Lib.hid g1
  have HK1 := Lib.hid g2
  have HA3 := Lib.hid i3
  have HR3 := Lib.hid i1
  have HK3 := Lib.hid i2
  have HA4 := Lib.hid j3
  have HR4 := Lib.hid j1
  have HK4 := Lib.hid j2
  clear h1 h2 h3 g1 g2 g3 i1 i2 i3 j1 j2 j3
  have hm2 : (V : Int) % 2 = (r : Int) := by omega
  have hr1 : (r : Int) ≤ 1 := by omega
  have hr2 : (r : Int) * 2 ≤ 2 := by omega
  have hr3 : 4 + (r : Int) * 2 ≤ 6 := by omega
  have HFam : Hid (4 + (r : Int) * 2 = ((4 + r * 2 : Nat) : Int)) := Lib.hid (by omega)
  have HF : Hid (4 + r * 2 = 4 ∨ 4 + r * 2 = 6) := Lib.hid (by omega)
  clear hr
  go_enter Try.func7, Try.ntmps7
  go_wp2_with fail
  refine (awake_any _).mono ?_
  rintro e wb ⟨rfl, hba⟩
  have HBb := Lib.hid hba
  clear hba
  have HRa := Lib.hid (HR0.out.below ((HBb.out).alloc HBb.out.size (.cells #[] 30)) rfl)
  have HBa := Lib.hid (HBb.out.alloc HBb.out.size (.cells #[] 30))
  have HMa := Lib.hid (made_E w wb HBb.out)
  go_wp2_with (first
    | (at_builtin; refine app_E rfl (.tmp 26) (.tmp 27) rfl w (.slice (some ⟨wb.heap.size, 0, none⟩) 0 0) 0 [] rfl HMa.out HBa.out a0 len0 cap0 (edA L0) rfl HRa.out HA0.out (recs_ed L0) (by omega) ?_; intro v2 w2 ho2 hb2 hs2 hk2))
  rw [Nat.zero_add, List.nil_append] at ho2
  obtain ⟨A2, c2, rfl, hc2, hm2', _, hR2⟩ := ownR_shape (recs_ed L0) (by decide) ho2
  have HR2 := Lib.hid hR2
  have HB2 := Lib.hid hb2
  clear ho2 hb2 hs2 hk2 hR2 HRa HBa HMa
  unfold maxLen at hm2'
  refine (putEdges_ex A2 len0 c2 L0 _ HR2.out HK0.out hc2 (by omega)).mono ?_
  rintro e w3 ⟨p1, n1, d1, x1, rfl, hb3, hx1⟩
  have HX1 := Lib.hid hx1
  have HB3 := Lib.hid (HB2.out.trans (hb3.mono HB2.out.size))
  clear hx1 hb3 HB2 HR2
  have HRa := Lib.hid (HR1.out.below ((HB3.out).alloc HB3.out.size (.cells #[] 30)) rfl)
  have HBa := Lib.hid (HB3.out.alloc HB3.out.size (.cells #[] 30))
  have HMa := Lib.hid (made_E w w3 HB3.out)
  go_wp2_with (first
    | (at_builtin; refine app_E rfl (.tmp 33) (.tmp 34) rfl w (.slice (some ⟨w3.heap.size, 0, none⟩) 0 0) 0 [] rfl HMa.out HBa.out a1 len1 cap1 (edA L1) rfl HRa.out HA1.out (recs_ed L1) (by omega) ?_; intro v4 w4 ho4 hb4 hs4 hk4))
  rw [Nat.zero_add, List.nil_append] at ho4
  obtain ⟨A4, c4, rfl, hc4, hm4', _, hR4⟩ := ownR_shape (recs_ed L1) (by decide) ho4
  have HRb := Lib.hid hR4
  have HB4 := Lib.hid hb4
  have hb34 := below_made HB3.out hb4 hs4 hk4
  unfold maxLen at hm4'
  refine (putEdges_ex A4 len1 c4 L1 _ HRb.out HK1.out hc4 (by omega)).mono ?_
  rintro e w5 ⟨p2, n2, d2, x2, rfl, hb5, hx2⟩
  have HX2 := Lib.hid hx2
  have HB5 := Lib.hid (HB4.out.trans (hb5.mono HB4.out.size))
  have HB35 := Lib.hid (hb34.trans (hb5.mono hb34.size))
  clear ho4 hb4 hR4 HRa HBa hk4 hb34 hx2 hb5 HRb HB3 HB4 HMa hs4
  go_upto_region 6 with (fail)
  obtain ⟨B, hB⟩ : ∃ B, decide (x1 = 0 ∧ x2 = 0 ∧ len0 + len1 ≤ 23) = B := ⟨_, rfl⟩
  have HBB := Lib.hid hB
  clear hB
  go_cut [52] (fun s52 wc => s52 = .bool B ∧ wc = w5)
  case first =>
    by_cases e1 : x1 = 0
    · by_cases e2 : x2 = 0
      · by_cases e3 : len0 + len1 ≤ 23
        · have hB : B = true := by rw [← HBB.out]; exact decide_eq_true ⟨e1, e2, e3⟩
          have t3 : ((len0 : Int) + (len1 : Int)) ≤ 23 := by omega
          subst hB e1 e2
          go_wp2_with fail
          go_meet
          case rel => exact ⟨rfl, rfl⟩
        · have hB : B = false := by rw [← HBB.out]; exact decide_eq_false (fun h => e3 h.2.2)
          have t3 : ¬ ((len0 : Int) + (len1 : Int)) ≤ 23 := by omega
          subst hB e1 e2
          go_wp2_with fail
          go_meet
          case rel => exact ⟨rfl, rfl⟩
      · have hB : B = false := by rw [← HBB.out]; exact decide_eq_false (fun h => e2 h.2.1)
        have t2 : (x2 == 0) = false := by simpa using e2
        subst hB e1
        go_wp2_with fail
        go_meet
        case rel => exact ⟨rfl, rfl⟩
    · have hB : B = false := by rw [← HBB.out]; exact decide_eq_false (fun h => e1 h.1)
      have t1 : (x1 == 0) = false := by simpa using e1
      subst hB
      go_wp2_with fail
      go_meet
      case rel => exact ⟨rfl, rfl⟩
  case rest =>
  obtain ⟨rfl, rfl⟩ := hcut
  go_upto_if 52 with (fail)
  go_cut [] (fun wc => Hid (Below w.heap.size w wc))
  case first =>
    cases B
    · go_wp2_with fail
      go_meet
      case rel => exact HB5
    · have hall := of_decide_eq_true HBB.out
      obtain ⟨y1, y2, y3, y4, y5, y6, y7⟩ := HX1.out hall.1
      obtain ⟨z1, z2, z3, z4, z5, z6, z7⟩ := HX2.out hall.2.1
      have hsum := hall.2.2
      unfold maxLen at y6 z6
      have HRp := Lib.hid (y3.below HB35.out rfl)
      have HRq := Lib.hid z3
      have HAp := Lib.hid y4
      have HAq := Lib.hid z4
      have HY := Lib.hid y7
      have HZ := Lib.hid z7
      have HN1 := Lib.hid y2
      have HN2 := Lib.hid z2
      have hb1 : n1 ≤ 253 := by omega
      have hb2 : n2 ≤ 253 := by omega
      clear hall y1 y2 y3 y4 y7 z1 z2 z3 z4 z7 HX1 HX2
      go_wp2_with fail
      refine (twin_any p1 n1 d1 (edZ L0) _ HRp.out HAp.out (by omega)).mono ?_
      rintro e w6 ⟨g, cap, rfl, hg, hog, hb6⟩
      have HO6 := Lib.hid (hog.ownB (base := w.heap.size) (Nat.le_trans HB5.out.size hg)).1
      have HB6 := Lib.hid (HB5.out.trans (hb6.mono HB5.out.size))
      have HRq6 := Lib.hid (HRq.out.below hb6 rfl)
      clear hg hog hb6
      go_wp2_with (first
        | (at_builtin; refine app_o rfl (.tmp 55) (.tmp 56) rfl w (.slice (some ⟨g, 0, none⟩) n1 cap) n1 _ rfl HO6.out HB6.out p2 n2 d2 (edZ L1) rfl HRq6.out HAq.out (by omega) ?_; intro v7 w7 ho7 hb7 hs7 hk7))
      have HB7 := Lib.hid hb7
      obtain ⟨n, hn⟩ : ∃ n, n1 + n2 = n := ⟨_, rfl⟩
      have hnb : n ≤ 255 := by have := HN1.out; have := HN2.out; omega
      have e1 := HN1.out
      have e2 := HN2.out
      have hcat := edZ_cat L0 L1 len0 len1
      have hn' : 11 * (len0 + len1) = n := by omega
      have hc7 : vals (edZ L0) n1 ++ vals (edZ L1) n2 = vals (edZ (catL L0 len0 L1)) n := by rw [e1, e2, hcat, hn']
      have ho7' : OwnB w7 w.heap.size v7 n (edZ (catL L0 len0 L1)) := ⟨by rw [hn, hc7] at ho7; exact ho7, edZ_bd _ (catL_every (p := EdOk) L0 L1 len0 HK0.out HK1.out)⟩
      obtain ⟨A7, c7, rfl, hc7, hm7, _, hrd7⟩ := ho7'.shape
      have HR7 := Lib.hid hrd7
      have hle := lends_edZ (catL L0 len0 L1) (len0 + len1)
      rw [hn'] at hle
      have HLE := Lib.hid hle
      have HPos : Hid (pos (eNx (edZ (catL L0 len0 L1))) (len0 + len1) = n) := Lib.hid (by rw [pos_edZ, hn'])
      have HCong := Lib.hid (fun j (hj : j < len0 + len1) => u8s_edZ_ends (L := catL L0 len0 L1) (m := len0 + len1) (catL_all (p := fun E => E.me ≤ 16777215) L0 L1 len0 len1 HY.out HZ.out) j hj)
      clear e1 e2 hcat hn' ho7' hrd7 hle hn
      have hla : Hid (∀ k, k < len0 + len1 → edA (catL L0 len0 L1) k = edA (catL L0 len0 L1) k) := Lib.hid (fun _ _ => rfl)
      unfold maxLen at hm7
      clear ho7 hb7 hs7 hk7
      go_wp2_with fail
      refine (getEdges_any A7 n c7 (len0 + len1) (edZ (catL L0 len0 L1)) _ HR7.out HLE.out (by omega) hc7 (by omega)).mono ?_
      rintro e w8 (⟨_, v8, rfl, ho8, hb8⟩ | ⟨hp, _⟩)
      rotate_left
      · rw [HPos.out] at hp; omega
      have HB8 := Lib.hid (HB7.out.trans (hb8.mono HB7.out.size))
      obtain ⟨A8, c8, rfl, hc8, hm8, _, hl8⟩ := ownR_shape (fun j => recs_eC (edZ (catL L0 len0 L1)) (pos (eNx (edZ (catL L0 len0 L1))) j)) (by decide) ho8
      have HL8 := Lib.hid (hl8.congr (C' := edA (catL L0 len0 L1)) HCong.out)
      have HRx := Lib.hid (HR0.out.below (HB8.out.alloc HB8.out.size (.cells #[] 30)) rfl)
      have HM8 := Lib.hid (made_E w w8 HB8.out)
      have HB8a := Lib.hid (HB8.out.alloc HB8.out.size (.cells #[] 30))
      have HB8w := Lib.hid ((bself w8).alloc (Nat.le_refl _) (.cells #[] 30))
      clear ho8 hb8 hl8
      go_wp2_with (first
        | (at_builtin; refine app_E_w (by rfl) (.tmp 65) (.tmp 66) rfl w (.slice (some ⟨w8.heap.size, 0, none⟩) 0 0) 0 [] rfl HM8.out HB8a.out a0 len0 cap0 (edA L0) rfl HRx.out HA0.out (recs_ed L0) (by omega) ?_; intro v9 w9 ho9 hb9 hs9 hk9; have HL9 := Lib.hid (HL8.out.below (below_made HB8.out hb9 hs9 hk9) rfl); have HRy := Lib.hid (HR1.out.below hb9 rfl); have hs89 := (below_made HB8.out hb9 hs9 hk9))
        | (at_builtin; refine app_E_w (by rfl) (.tmp 67) (.tmp 68) rfl w v9 (0 + len0) _ rfl ho9 hb9 a1 len1 cap1 (edA L1) rfl HRy.out HA1.out (recs_ed L1) (by omega) ?_; intro v10 w10 ho10 hb10 hs10 hk10; rw [Nat.zero_add, List.nil_append, cellsR_cat, edA_cat] at ho10; obtain ⟨A10, c10, rfl, hc10, hm10, _, hl10⟩ := ownR_shape (recs_ed (catL L0 len0 L1)) (by decide) ho10))
      have HL10 := Lib.hid hl10
      have HB10 := Lib.hid hb10
      have HL8x : Hid (RdR w10 A8 (len0 + len1) 8 (edA (catL L0 len0 L1))) := Lib.hid (by
        rcases HL9.out with h | ⟨b, off, rfl, h⟩
        · exact .inl h
        · refine .inr ⟨b, off, rfl, by have := h.1; omega, fun j hj k u hu => ?_⟩
          have hb : b < w8.heap.size := by
            rcases HL8.out with h0 | ⟨b', off', e, h0⟩
            · omega
            · injection e with e; injection e with e1 _; subst e1; exact h0.1
          have hne : v9.ownBlock ≠ some b := by
            have := hk9 b (by simp; omega) (fun e => by simp [Value.ownBlock] at e; omega)
            exact this.2
          have e := (hk10 b (by have := hs89.size; omega) hne).1
          have c := h.2 j hj k u hu
          rw [← c]
          exact cell_same e)
      have HS := Lib.hid (fun (j : Nat) (hj : j < len0 + len1) => self_ed 9996 (catL L0 len0 L1 j) (catL_every (p := EdOk) L0 L1 len0 HK0.out HK1.out j))
      clear hl10 hb10 ho10 hs10 hk10 ho9 hb9 hs9 hk9 hs89
      refine (sameE_yes A8 A10 (len0 + len1) c8 c10 (edA (catL L0 len0 L1)) _ HL8x.out HL10.out (fun j hj => HS.out j hj) (fun j => rfl) (by omega)).mono ?_
      rintro e w11 ⟨rfl, q11, hw11⟩
      have HB11 : Hid (Below w.heap.size w w11) := Lib.hid (by rw [hw11]; exact bdrewN HB10.out q11)
      clear hw11 HL8x HL10 HS
      go_wp2_with fail
      go_meet
      case rel => exact HB11
  case rest =>
  have HBb := Lib.hid (show Below w.heap.size w wc from hcut.out)
  obtain ⟨wb, hwb⟩ : ∃ wb, wc = wb := ⟨_, rfl⟩
  subst hwb
  have wbx : True := trivial
  have HRa := Lib.hid (HR3.out.below ((HBb.out).alloc HBb.out.size (.cells #[] 47)) rfl)
  have HBa := Lib.hid (HBb.out.alloc HBb.out.size (.cells #[] 47))
  have HMa := Lib.hid (made_R w wc HBb.out)
  go_wp2_with (first
    | (at_builtin; refine app_R rfl (.tmp 75) (.tmp 76) rfl w (.slice (some ⟨wc.heap.size, 0, none⟩) 0 0) 0 [] rfl HMa.out HBa.out a3 len3 cap3 (rcA L3) rfl HRa.out HA3.out (recs_rc L3) (by omega) ?_; intro v2 w2 ho2 hb2 hs2 hk2))
  rw [Nat.zero_add, List.nil_append] at ho2
  obtain ⟨A2, c2, rfl, hc2, hm2', _, hR2⟩ := ownR_shape (recs_rc L3) (by decide) ho2
  have HR2 := Lib.hid hR2
  have HB2 := Lib.hid hb2
  clear ho2 hb2 hs2 hk2 hR2 HRa HBa HMa
  unfold maxLen at hm2'
  refine (putReach_ex _ _ HFam.out HF.out A2 len3 c2 L3 _ HR2.out HK3.out hc2 (by omega)).mono ?_
  rintro e w3 ⟨p1, n1, d1, x1, rfl, hb3, hx1⟩
  have HX1 := Lib.hid hx1
  have HB3 := Lib.hid (HB2.out.trans (hb3.mono HB2.out.size))
  clear hx1 hb3 HB2 HR2
  have HRa := Lib.hid (HR4.out.below ((HB3.out).alloc HB3.out.size (.cells #[] 47)) rfl)
  have HBa := Lib.hid (HB3.out.alloc HB3.out.size (.cells #[] 47))
  have HMa := Lib.hid (made_R w w3 HB3.out)
  go_wp2_with (first
    | (at_builtin; refine app_R rfl (.tmp 83) (.tmp 84) rfl w (.slice (some ⟨w3.heap.size, 0, none⟩) 0 0) 0 [] rfl HMa.out HBa.out a4 len4 cap4 (rcA L4) rfl HRa.out HA4.out (recs_rc L4) (by omega) ?_; intro v4 w4 ho4 hb4 hs4 hk4))
  rw [Nat.zero_add, List.nil_append] at ho4
  obtain ⟨A4, c4, rfl, hc4, hm4', _, hR4⟩ := ownR_shape (recs_rc L4) (by decide) ho4
  have HRb := Lib.hid hR4
  have HB4 := Lib.hid hb4
  have hb34 := below_made HB3.out hb4 hs4 hk4
  unfold maxLen at hm4'
  refine (putReach_ex _ _ HFam.out HF.out A4 len4 c4 L4 _ HRb.out HK4.out hc4 (by omega)).mono ?_
  rintro e w5 ⟨p2, n2, d2, x2, rfl, hb5, hx2⟩
  have HX2 := Lib.hid hx2
  have HB5 := Lib.hid (HB4.out.trans (hb5.mono HB4.out.size))
  have HB35 := Lib.hid (hb34.trans (hb5.mono hb34.size))
  clear ho4 hb4 hR4 HRa HBa hk4 hb34 hx2 hb5 HRb HB3 HB4 HMa hs4
  go_upto_region 12 with (fail)
  obtain ⟨B, hB⟩ : ∃ B, decide (x1 = 0 ∧ x2 = 0 ∧ len3 + len4 ≤ 11) = B := ⟨_, rfl⟩
  have HBB := Lib.hid hB
  clear hB
  go_cut [102] (fun s52 wc => s52 = .bool B ∧ wc = w5)
  case first =>
    by_cases e1 : x1 = 0
    · by_cases e2 : x2 = 0
      · by_cases e3 : len3 + len4 ≤ 11
        · have hB : B = true := by rw [← HBB.out]; exact decide_eq_true ⟨e1, e2, e3⟩
          have t3 : ((len3 : Int) + (len4 : Int)) ≤ 11 := by omega
          subst hB e1 e2
          go_wp2_with fail
          go_meet
          case rel => exact ⟨rfl, rfl⟩
        · have hB : B = false := by rw [← HBB.out]; exact decide_eq_false (fun h => e3 h.2.2)
          have t3 : ¬ ((len3 : Int) + (len4 : Int)) ≤ 11 := by omega
          subst hB e1 e2
          go_wp2_with fail
          go_meet
          case rel => exact ⟨rfl, rfl⟩
      · have hB : B = false := by rw [← HBB.out]; exact decide_eq_false (fun h => e2 h.2.1)
        have t2 : (x2 == 0) = false := by simpa using e2
        subst hB e1
        go_wp2_with fail
        go_meet
        case rel => exact ⟨rfl, rfl⟩
    · have hB : B = false := by rw [← HBB.out]; exact decide_eq_false (fun h => e1 h.1)
      have t1 : (x1 == 0) = false := by simpa using e1
      subst hB
      go_wp2_with fail
      go_meet
      case rel => exact ⟨rfl, rfl⟩
  case rest =>
  obtain ⟨rfl, rfl⟩ := hcut
  go_upto_if 102 with (fail)
  go_cut [] (fun wc => Hid (Below w.heap.size w wc))
  case first =>
    cases B
    · go_wp2_with fail
      go_meet
      case rel => exact HB5
    · have hall := of_decide_eq_true HBB.out
      obtain ⟨y1, y2, y3, y4, y5, y6, y7⟩ := HX1.out hall.1
      obtain ⟨z1, z2, z3, z4, z5, z6, z7⟩ := HX2.out hall.2.1
      have hsum := hall.2.2
      unfold maxLen at y6 z6
      have HRp := Lib.hid (y3.below HB35.out rfl)
      have HRq := Lib.hid z3
      have HAp := Lib.hid y4
      have HAq := Lib.hid z4
      have HY := Lib.hid y7
      have HZ := Lib.hid z7
      have HN1 := Lib.hid y2
      have HN2 := Lib.hid z2
      have hb1 : n1 ≤ 253 := by have := flat_len HY.out; omega
      have hb2 : n2 ≤ 253 := by have := flat_len HZ.out; omega
      clear hall y1 y2 y3 y4 y7 z1 z2 z3 z4 z7 HX1 HX2
      go_wp2_with fail
      refine (twin_any p1 n1 d1 (zL (flatR L3 len3)) _ HRp.out HAp.out (by omega)).mono ?_
      rintro e w6 ⟨g, cap, rfl, hg, hog, hb6⟩
      have HO6 := Lib.hid (hog.ownB (base := w.heap.size) (Nat.le_trans HB5.out.size hg)).1
      have HB6 := Lib.hid (HB5.out.trans (hb6.mono HB5.out.size))
      have HRq6 := Lib.hid (HRq.out.below hb6 rfl)
      clear hg hog hb6
      go_wp2_with (first
        | (at_builtin; refine app_o rfl (.tmp 106) (.tmp 107) rfl w (.slice (some ⟨g, 0, none⟩) n1 cap) n1 _ rfl HO6.out HB6.out p2 n2 d2 (zL (flatR L4 len4)) rfl HRq6.out HAq.out (by omega) ?_; intro v7 w7 ho7 hb7 hs7 hk7))
      have HB7 := Lib.hid hb7
      obtain ⟨n, hn⟩ : ∃ n, n1 + n2 = n := ⟨_, rfl⟩
      have hnb : n ≤ 255 := by have := flat_len HY.out; have := flat_len HZ.out; have := HN1.out; have := HN2.out; omega
      have hrg := catL_all (p := RG (4 + r * 2)) L3 L4 len3 len4 HY.out HZ.out
      have e1 := HN1.out
      have e2 := HN2.out
      have hcat : vals (zL (flatR L3 len3)) n1 ++ vals (zL (flatR L4 len4)) n2 = flatR (catL L3 len3 L4) (len3 + len4) := by
        rw [e1, e2, vals_zL (u8s_rg HY.out), vals_zL (u8s_rg HZ.out), flatR_cat]
      have hn' : (flatR (catL L3 len3 L4) (len3 + len4)).length = n := by rw [← hcat, List.length_append, vals_len, vals_len, hn]
      have ho7' : OwnB w7 w.heap.size v7 n (zL (flatR (catL L3 len3 L4) (len3 + len4))) := own_zL (by rw [hn, hcat] at ho7; exact ho7) hn'.symm (u8s_rg hrg)
      obtain ⟨A7, c7, rfl, hc7, hm7, _, hrd7⟩ := ho7'.shape
      have HR7 := Lib.hid hrd7
      have hle := lends_flat HF.out hrg
      rw [hn'] at hle
      have HLE := Lib.hid hle
      have HPos : Hid (pos (rNx (4 + r * 2) (zL (flatR (catL L3 len3 L4) (len3 + len4)))) (len3 + len4) = n) := Lib.hid (by rw [pos_flat HF.out hrg _ (Nat.le_refl _), hn'])
      have HCong := Lib.hid (fun j (hj : j < len3 + len4) => rC_flat HF.out hrg j hj)
      clear e1 e2 hcat hn' ho7' hrd7 hle hn hrg
      have hla : Hid (∀ k, k < len3 + len4 → rcA (catL L3 len3 L4) k = rcA (catL L3 len3 L4) k) := Lib.hid (fun _ _ => rfl)
      unfold maxLen at hm7
      clear ho7 hb7 hs7 hk7
      go_wp2_with fail
      refine (getReach_ex _ _ HFam.out HF.out A7 n c7 (len3 + len4) (zL (flatR (catL L3 len3 L4) (len3 + len4))) _ HR7.out HLE.out (by omega) hc7 (by omega)).mono ?_
      rintro e w8 (⟨_, v8, rfl, ho8, hb8⟩ | ⟨hp, _⟩)
      rotate_left
      · rw [HPos.out] at hp; omega
      have HB8 := Lib.hid (HB7.out.trans (hb8.mono HB7.out.size))
      obtain ⟨A8, c8, rfl, hc8, hm8, _, hl8⟩ := ownR_shape (fun j => recs_rC (4 + r * 2) (zL (flatR (catL L3 len3 L4) (len3 + len4))) (pos (rNx (4 + r * 2) (zL (flatR (catL L3 len3 L4) (len3 + len4)))) j)) (by decide) ho8
      have HL8 := Lib.hid (hl8.congr (C' := rcA (catL L3 len3 L4)) HCong.out)
      have HRx := Lib.hid (HR3.out.below (HB8.out.alloc HB8.out.size (.cells #[] 47)) rfl)
      have HM8 := Lib.hid (made_R w w8 HB8.out)
      have HB8a := Lib.hid (HB8.out.alloc HB8.out.size (.cells #[] 47))
      have HB8w := Lib.hid ((bself w8).alloc (Nat.le_refl _) (.cells #[] 47))
      clear ho8 hb8 hl8
      go_wp2_with (first
        | (at_builtin; refine app_R_w (by rfl) (.tmp 116) (.tmp 117) rfl w (.slice (some ⟨w8.heap.size, 0, none⟩) 0 0) 0 [] rfl HM8.out HB8a.out a3 len3 cap3 (rcA L3) rfl HRx.out HA3.out (recs_rc L3) (by omega) ?_; intro v9 w9 ho9 hb9 hs9 hk9; have HL9 := Lib.hid (HL8.out.below (below_made HB8.out hb9 hs9 hk9) rfl); have HRy := Lib.hid (HR4.out.below hb9 rfl); have hs89 := (below_made HB8.out hb9 hs9 hk9))
        | (at_builtin; refine app_R_w (by rfl) (.tmp 118) (.tmp 119) rfl w v9 (0 + len3) _ rfl ho9 hb9 a4 len4 cap4 (rcA L4) rfl HRy.out HA4.out (recs_rc L4) (by omega) ?_; intro v10 w10 ho10 hb10 hs10 hk10; rw [Nat.zero_add, List.nil_append, cellsR_cat, rcA_cat] at ho10; obtain ⟨A10, c10, rfl, hc10, hm10, _, hl10⟩ := ownR_shape (recs_rc (catL L3 len3 L4)) (by decide) ho10))
      have HL10 := Lib.hid hl10
      have HB10 := Lib.hid hb10
      have HL8x : Hid (RdR w10 A8 (len3 + len4) 20 (rcA (catL L3 len3 L4))) := Lib.hid (by
        rcases HL9.out with h | ⟨b, off, rfl, h⟩
        · exact .inl h
        · refine .inr ⟨b, off, rfl, by have := h.1; omega, fun j hj k u hu => ?_⟩
          have hb : b < w8.heap.size := by
            rcases HL8.out with h0 | ⟨b', off', e, h0⟩
            · omega
            · injection e with e; injection e with e1 _; subst e1; exact h0.1
          have hne : v9.ownBlock ≠ some b := by
            have := hk9 b (by simp; omega) (fun e => by simp [Value.ownBlock] at e; omega)
            exact this.2
          have e := (hk10 b (by have := hs89.size; omega) hne).1
          have c := h.2 j hj k u hu
          rw [← c]
          exact cell_same e)
      have HS := Lib.hid (fun (j : Nat) (hj : j < len3 + len4) => self_rc 9996 (catL L3 len3 L4 j) (catL_every (p := RcOk) L3 L4 len3 HK3.out HK4.out j))
      clear hl10 hb10 ho10 hs10 hk10 ho9 hb9 hs9 hk9 hs89
      refine (sameR_yes A8 A10 (len3 + len4) c8 c10 (rcA (catL L3 len3 L4)) _ HL8x.out HL10.out (fun j hj => HS.out j hj) (fun j => rfl) (by omega)).mono ?_
      rintro e w11 ⟨rfl, q11, hw11⟩
      have HB11 : Hid (Below w.heap.size w w11) := Lib.hid (by rw [hw11]; exact bdrewN HB10.out q11)
      clear hw11 HL8x HL10 HS
      go_wp2_with fail
      go_meet
      case rel => exact HB11
  case rest =>
  have HBf := hcut
  go_wp2_with fail
  go_ret
  exact ⟨rfl, HBf.out⟩
theorem walkReachJoins (a0 : Option Addr) (len0 cap0 : Nat) (L0 : Nat → Ed) (a1 : Option Addr) (len1 cap1 : Nat) (L1 : Nat → Ed) (a2 : Int) (a3 : Option Addr) (len3 cap3 : Nat) (L3 : Nat → Rc) (a4 : Option Addr) (len4 cap4 : Nat) (L4 : Nat → Rc) (w : World)
    (w0 : InE w a0 len0 cap0 L0) (w1 : InE w a1 len1 cap1 L1) (w2 : (Lit.int .u8 a2).wf = true) (w3 : InR w a3 len3 cap3 L3) (w4 : InR w a4 len4 cap4 L4) :
    Calls Try.prog 7 #[.slice a0 len0 cap0, .slice a1 len1 cap1, .int .u8 a2, .slice a3 len3 cap3, .slice a4 len4 cap4] w fun e w' => e = .returned (.bool true) ∧ Below w.heap.size w w' := by
  have h2 := wf_u8 w2
  obtain ⟨V, rfl⟩ := Int.eq_ofNat_of_zero_le h2.1
  exact joins_any a0 len0 cap0 L0 a1 len1 cap1 L1 V _ a3 len3 cap3 L3 a4 len4 cap4 L4 w w0 w1 (by omega) rfl w3 w4
end Go.Proofs.Ytplfilghhgdffaa
