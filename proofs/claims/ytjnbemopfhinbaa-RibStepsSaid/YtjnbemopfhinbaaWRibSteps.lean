/- RibSteps, walked: what is gone taken away and what is new laid over it is the new table. No condition. -/
import Derived.Test.YtjnbemopfhinbaaRbLd
import Derived.Test.YtjnbemopfhinbaaPKey
import Derived.Deep.DeepCutAuto
namespace Go.Proofs.Ytjnbemopfhinbaa
open Go.RowKit
set_option linter.unusedVariables false
set_option linter.unusedSimpArgs false

theorem diff_cpy {w : World} {B1 B2 n m : Nat} {X Y : Nat → Rx} {v1 v2 : Value} {S1 S2 : List Rx} (h1 : Cpy w B1 n X v1 S1) (h2 : Cpy w B2 m Y v2 S2) (hx : ∀ j, j < n → RtB (X j).r) (hy : ∀ j, j < m → RtB (Y j).r) (hn : n ≤ 1000) (hm : m ≤ 1000) : Calls Try.prog 39 #[v1, v2] w (DiffQ w n m X Y) := by
  obtain ⟨A, c, rfl, _, _, _, hr⟩ := h1.own.shape (rxB_recs _) (by decide)
  obtain ⟨A2, c2, rfl, _, _, _, hr2⟩ := h2.own.shape (rxB_recs _) (by decide)
  refine (diff_any (fun j => S1.getD j rx0) (fun j => S2.getD j rx0) A A2 n m c c2 w hr (fun j hj => (h1.hop _ (S_mem h1.len hj)).at) (fun j hj => by rw [h1.same j hj]; exact hx j hj) hn hr2 (fun j hj => (h2.hop _ (S_mem h2.len hj)).at) (fun j hj => by rw [h2.same j hj]; exact hy j hj) hm).mono ?_
  rintro e w' ⟨b, h⟩
  have er : ∀ (k : Nat) (X Y : Nat → Rx) (er : Int), (∀ j, j < k → (X j).r = (Y j).r) → ErrX k X er → ErrX k Y er := fun k X Y er hs h => by
    rcases h with ⟨a, i, hi, b⟩ | ⟨a, b, i, j, hij, hj, d⟩ | ⟨a, b, d⟩
    · exact .inl ⟨a, i, hi, by rw [← hs i hi]; exact b⟩
    · exact .inr (.inl ⟨a, fun i hi => by rw [← hs i hi]; exact b i hi, i, j, hij, hj, by rw [← hs i (by omega), ← hs j hj]; exact d⟩)
    · exact .inr (.inr ⟨a, fun i hi => by rw [← hs i hi]; exact b i hi, fun i j hij hj => by rw [← hs i (by omega), ← hs j hj]; exact d i j hij hj⟩)
  refine ⟨b, ?_⟩
  rcases h with ⟨e1, e2, he1, he2, hne, e9⟩ | ⟨S, S2', T, T2, v1, v2, t, s, t2, s2, c, c2, A, A2, he1, he2, e9, ht, ht2, hp, ha, hp2, ha2, ho1, ho2, hhi⟩
  · exact .inl ⟨e1, e2, er n _ X e1 h1.same he1, er m _ Y e2 h2.same he2, hne, e9⟩
  · exact .inr ⟨S, S2', T, T2, v1, v2, t, s, t2, s2, c, c2, A, A2, er n _ X 0 h1.same he1, er m _ Y 0 h2.same he2, e9, ht, ht2, hp.congr h1.same, ha, hp2.congr h2.same, ha2, ho1, ho2, hhi⟩
set_option maxHeartbeats 64000000 in
set_option maxRecDepth 100000 in
theorem walkRibSteps (a0 : Option Addr) (len0 cap0 : Nat) (L0_ : Nat → Rx) (a1 : Option Addr) (len1 cap1 : Nat) (L1_ : Nat → Rx) (w : World) (h0 : InRx w a0 len0 cap0 L0_) (h1 : InRx w a1 len1 cap1 L1_) :
    Calls Try.prog 10 #[.slice a0 len0 cap0, .slice a1 len1 cap1] w fun e w' => e = .returned (.bool true) ∧ Below w.heap.size w w' := by
  obtain ⟨L0, h0, hc0⟩ : ∃ L, InRx w a0 len0 cap0 L ∧ ∀ j, Can (L j).r := ⟨_, in_can h0, fun j => can_can _⟩
  obtain ⟨L1, h1, hc1⟩ : ∃ L, InRx w a1 len1 cap1 L ∧ ∀ j, Can (L j).r := ⟨_, in_can h1, fun j => can_can _⟩
  have HL := Lib.hid h0
  have HL1 := Lib.hid h1
  have HC0 := Lib.hid hc0
  have HC1 := Lib.hid hc1
  have HAW := Lib.hid awakeR_any
  have HRB := Lib.hid (fun j => (h0.2.1 j).1)
  have HRB1 := Lib.hid (fun j => (h1.2.1 j).1)
  clear h0 h1 hc0 hc1
  obtain ⟨n, hn⟩ : ∃ n, min len0 40 = n := ⟨_, rfl⟩
  obtain ⟨m, hm⟩ : ∃ m, min len1 40 = m := ⟨_, rfl⟩
  have HN : Hid (n ≤ len0 ∧ n ≤ 40) := Lib.hid (by omega)
  have HM : Hid (m ≤ len1 ∧ m ≤ 40) := Lib.hid (by omega)
  have HNE := Lib.hid hn
  have HME := Lib.hid hm
  clear hn hm
  have HRR : Hid (∀ W, Below w.heap.size w W → RdR W a0 n 21 (fun j => rxC (L0 j)) ∧ ∀ j, j < n → HopAt W (L0 j)) := Lib.hid (fun W hW => ⟨(HL.out.1.below hW rfl).cut n HN.out.1, fun j _ => (HL.out.2.1 j).2.below hW⟩)
  have HRR1 : Hid (∀ W, Below w.heap.size w W → RdR W a1 m 21 (fun j => rxC (L1 j)) ∧ ∀ j, j < m → HopAt W (L1 j)) := Lib.hid (fun W hW => ⟨(HL1.out.1.below hW rfl).cut m HM.out.1, fun j _ => (HL1.out.2.1 j).2.below hW⟩)
  go_enter Try.func10, Try.ntmps10
  have HB := Lib.hid (Below.refl w.heap.size w)
  go_wp2_with fail
  refine (HAW.out _).mono ?_
  rintro e w2 ⟨rfl, b1⟩
  have HBn := Lib.hid (HB.out.trans (b1.mono HB.out.size))
  clear HB
  have HB := HBn
  clear HBn
  clear b1
  go_wp2_with fail
  go_cut [0, 1] (fun s1 s2 wc => s1 = .slice a0 n cap0 ∧ s2 = .slice a1 m cap1 ∧ Hid (Below w.heap.size w wc))
  case first =>
    refine wp_region_held_drew (S := fun w' => Below w.heap.size w w') (by kernel_rfl) HB.out.drew (fun hS => ?_)
    generalize hW41 : w2.drew = W41 at hS  ⊢
    clear hW41
    clear HB
    have HB := Lib.hid hS
    refine takeY (i := 0) (some 25) (v := .slice a0 len0 cap0) rfl rfl (by kernel_rfl) (by kernel_rfl) (by kernel_rfl) (fun _ _ _ h => h) (by rfl) (fun w' hS => by clear hS; go_simp) hS ?_
    simp only [Act.put, List.setIfInBounds_toArray, List.set_cons_zero, List.set_cons_succ]
    refine takeY (i := 1) (some 26) (v := .slice a0 len0 cap0) rfl rfl (by kernel_rfl) (by kernel_rfl) (by kernel_rfl) (fun _ _ _ h => h) (by rfl) (fun w' hS => by clear hS; go_simp) hS ?_
    simp only [Act.put, List.setIfInBounds_toArray, List.set_cons_zero, List.set_cons_succ]
    refine takeY (i := 2) (some 27) (v := .int .i64 (len0 : Int)) rfl rfl (by kernel_rfl) (by kernel_rfl) (by kernel_rfl) (fun _ _ _ h => h) (by rfl) (fun w' hS => by clear hS; exact lenR_run _ _ _ rfl a0 len0 cap0 rfl _) hS ?_
    simp only [Act.put, List.setIfInBounds_toArray, List.set_cons_zero, List.set_cons_succ]
    refine takeY (i := 3) (some 28) (v := .int .i64 (n : Int)) rfl rfl (by kernel_rfl) (by kernel_rfl) (by kernel_rfl) (fun _ _ _ h => h) (by rfl) (fun w' hS => by clear hS; rw [← HNE.out]; exact min40 _ _ _ rfl len0 rfl rfl _) hS ?_
    simp only [Act.put, List.setIfInBounds_toArray, List.set_cons_zero, List.set_cons_succ]
    refine takeY (i := 4) (some 29) (v := .slice a0 n cap0) rfl rfl (by kernel_rfl) (by kernel_rfl) (by kernel_rfl) (fun _ _ _ h => h) (by rfl) (fun w' hS => by clear hS; exact slice_rt _ _ _ _ rfl a0 len0 cap0 n (by rcases HL.out.1 with h | ⟨b, o, h, _⟩; exact .inl h; exact .inr ⟨b, o, h⟩) rfl rfl HN.out.1 HL.out.2.2.2.1 _) hS ?_
    simp only [Act.put, List.setIfInBounds_toArray, List.set_cons_zero, List.set_cons_succ]
    refine takeY (i := 5) (some 30) (v := .slice a1 len1 cap1) rfl rfl (by kernel_rfl) (by kernel_rfl) (by kernel_rfl) (fun _ _ _ h => h) (by rfl) (fun w' hS => by clear hS; go_simp) hS ?_
    simp only [Act.put, List.setIfInBounds_toArray, List.set_cons_zero, List.set_cons_succ]
    refine takeY (i := 6) (some 31) (v := .slice a1 len1 cap1) rfl rfl (by kernel_rfl) (by kernel_rfl) (by kernel_rfl) (fun _ _ _ h => h) (by rfl) (fun w' hS => by clear hS; go_simp) hS ?_
    simp only [Act.put, List.setIfInBounds_toArray, List.set_cons_zero, List.set_cons_succ]
    refine takeY (i := 7) (some 32) (v := .int .i64 (len1 : Int)) rfl rfl (by kernel_rfl) (by kernel_rfl) (by kernel_rfl) (fun _ _ _ h => h) (by rfl) (fun w' hS => by clear hS; exact lenR_run _ _ _ rfl a1 len1 cap1 rfl _) hS ?_
    simp only [Act.put, List.setIfInBounds_toArray, List.set_cons_zero, List.set_cons_succ]
    refine takeY (i := 8) (some 33) (v := .int .i64 (m : Int)) rfl rfl (by kernel_rfl) (by kernel_rfl) (by kernel_rfl) (fun _ _ _ h => h) (by rfl) (fun w' hS => by clear hS; rw [← HME.out]; exact min40 _ _ _ rfl len1 rfl rfl _) hS ?_
    simp only [Act.put, List.setIfInBounds_toArray, List.set_cons_zero, List.set_cons_succ]
    refine takeY (i := 9) (some 34) (v := .slice a1 m cap1) rfl rfl (by kernel_rfl) (by kernel_rfl) (by kernel_rfl) (fun _ _ _ h => h) (by rfl) (fun w' hS => by clear hS; exact slice_rt _ _ _ _ rfl a1 len1 cap1 m (by rcases HL1.out.1 with h | ⟨b, o, h, _⟩; exact .inl h; exact .inr ⟨b, o, h⟩) rfl rfl HM.out.1 HL1.out.2.2.2.1 _) hS ?_
    simp only [Act.put, List.setIfInBounds_toArray, List.set_cons_zero, List.set_cons_succ]
    refine takeY (i := 10) (some 0) (v := .slice a0 n cap0) rfl rfl (by kernel_rfl) (by kernel_rfl) (by kernel_rfl) (fun _ _ _ h => h) (by rfl) (fun w' hS => by clear hS; go_simp) hS ?_
    simp only [Act.put, List.setIfInBounds_toArray, List.set_cons_zero, List.set_cons_succ]
    refine takeY (i := 11) (some 1) (v := .slice a1 m cap1) rfl rfl (by kernel_rfl) (by kernel_rfl) (by kernel_rfl) (fun _ _ _ h => h) (by rfl) (fun w' hS => by clear hS; go_simp) hS ?_
    simp only [Act.put, List.setIfInBounds_toArray, List.set_cons_zero, List.set_cons_succ]
    clear hS
    refine wpAnyH_done (by kernel_rfl) ?_ _
    go_wp2_with fail
    go_meet
    case rel => exact ⟨rfl, rfl, HB⟩
  case rest =>
    obtain ⟨rfl, rfl, HBc⟩ := hcut
    clear HB
    have HB := HBc
    clear HBc
    go_wp2_with fail
    refine (twin_any L0 a0 n cap0 wc (HRR.out _ HB.out).1 (HRR.out _ HB.out).2 (by have := HN.out; omega)).mono ?_
    rintro e w3 ⟨v1, S1, rfl, hc, b1⟩
    have HBn := Lib.hid (HB.out.trans (b1.mono HB.out.size))
    clear HB
    have HB := HBn
    clear HBn
    clear b1
    have HCA := Lib.hid hc
    clear hc
    go_wp2_with fail
    refine (twin_any L1 a1 m cap1 w3 (HRR1.out _ HB.out).1 (HRR1.out _ HB.out).2 (by have := HM.out; omega)).mono ?_
    rintro e w4 ⟨v2, S2, rfl, hc, b1⟩
    have HBn := Lib.hid (HB.out.trans (b1.mono HB.out.size))
    clear HB
    have HB := HBn
    clear HBn
    have HCAn := Lib.hid (HCA.out.below b1)
    clear HCA
    have HCA := HCAn
    clear HCAn
    clear b1
    have HCB := Lib.hid hc
    clear hc
    go_wp2_with fail
    refine (diff_cpy HCA.out HCB.out (fun j _ => HRB.out j) (fun j _ => HRB1.out j) (by have := HN.out; omega) (by have := HM.out; omega)).mono ?_
    rintro e w5 ⟨b1, h⟩
    have HBn := Lib.hid (HB.out.trans (b1.mono HB.out.size))
    clear HB
    have HB := HBn
    clear HBn
    have HCAn := Lib.hid (HCA.out.below b1)
    clear HCA
    have HCA := HCAn
    clear HCAn
    have HCBn := Lib.hid (HCB.out.below b1)
    clear HCB
    have HCB := HCBn
    clear HCBn
    clear b1 HCA HCB
    rcases h with ⟨e1, e2, he1, he2, hne, rfl⟩ | ⟨S, S2, T, T2, v1, v2, t, s, t2, s2, c, c2, A, A2, he1, he2, rfl, ht, ht2, hp, ha, hp2, ha2, ho1, ho2, hhi⟩
    · have HLN := Lib.hid (lstI_ne he1.er he2.er hne)
      clear he1 he2 hne
      obtain ⟨q, hq⟩ : ∃ q, lstI e1 e2 = q := ⟨_, rfl⟩
      rw [hq] at HLN ⊢
      have hqf : ¬ q = 0 := HLN.out
      clear hq
      go_wp2
      first | (go_ret; exact ⟨rfl, HB.out⟩) | exact ⟨.bool true, by simp [results, Try.f10, go_sem], rfl, HB.out⟩ | exact bodyPost_ret (v := .bool true) (by simp [results, Try.f10, go_sem]) rfl ⟨rfl, HB.out⟩
    · have HTA := Lib.hid ht
      have HTB := Lib.hid ht2
      have HPA := Lib.hid hp
      have HAA := Lib.hid ha
      have HPB := Lib.hid hp2
      have HAB := Lib.hid ha2
      have HE1 := Lib.hid he1
      have HE2 := Lib.hid he2
      obtain ⟨E, hE⟩ : ∃ E, newL S T S2 = E := ⟨_, rfl⟩
      obtain ⟨G, hG⟩ : ∃ G, pfL (goneL T2 S) = G := ⟨_, rfl⟩
      rw [hE] at ho2
      rw [hG] at ho1
      have HE := Lib.hid hE
      have HG := Lib.hid hG
      have HKL : Hid (G.length ≤ 40 ∧ E.length ≤ 40) := Lib.hid ⟨by rw [← hG, pfL_len]; have := goneL_len T2 S S.length; rw [List.take_of_length_le (Nat.le_refl _)] at this; have h9 := ht.len; have := HN.out; omega, by rw [← hE]; have := newL_len S T S2 S2.length; rw [List.take_of_length_le (Nat.le_refl _)] at this; have h9 := ht2.len; have := HM.out; omega⟩
      have HO2 := Lib.hid ho2
      obtain ⟨Ag, cg, rfl, h91, h92, h93, hrg⟩ := ho1.shape (pfB_recs _) (by decide)
      obtain ⟨Ae, ce, rfl, h94, h95, h96, hre⟩ := ho2.shape (rxB_recs _) (by decide)
      have HRG := Lib.hid hrg
      have HRE := Lib.hid hre
      have HAE := Lib.hid h96
      clear ht ht2 hp ha hp2 ha2 he1 he2 hE hG ho1 ho2 hhi h91 h92 h93 h94 h95 h96 hrg hre
      have HEB : Hid (∀ j, j < E.length → RtB (E.getD j rx0).r ∧ HopAt w5 (E.getD j rx0)) := Lib.hid (fun j hj => by have h9 := S_mem (S := E) rfl hj; rw [← HE.out] at h9; obtain ⟨hm, _⟩ := mem_new.1 h9; rw [HE.out] at hm; obtain ⟨i, hi, ei⟩ := mem_at hm; obtain ⟨q, hq, eq⟩ := HPB.out.to i (by rw [← HTB.out.len]; exact hi); exact ⟨by rw [← ei, eq]; exact HRB1.out q, HTB.out.hop _ hm⟩)
      have HGB : Hid (∀ j, j < G.length → Bytes (G.getD j pf0).z) := Lib.hid (fun j hj => by have h9 : G.getD j pf0 ∈ G := (by rw [List.getD_eq_getElem?_getD, List.getElem?_eq_getElem hj]; exact List.getElem_mem hj); obtain ⟨P, hP⟩ : ∃ P, G.getD j pf0 = P := ⟨_, rfl⟩; rw [hP] at h9 ⊢; rw [← HG.out] at h9; unfold pfL at h9; obtain ⟨y, hy, ey⟩ := List.mem_map.1 h9; obtain ⟨hm, _⟩ := mem_gone.1 hy; obtain ⟨i, hi, ei⟩ := mem_at hm; obtain ⟨q, hq, eq⟩ := HPA.out.to i (by rw [← HTA.out.len]; exact hi); rw [← ey, ← ei, eq]; exact (HRB.out q).p)
      have HW5 := Lib.hid HB.out.size
      go_wp2_with fail
      go_loopw [8, 56] (fun v t wr => ∃ i : Nat, i ≤ n ∧ t = .int .i64 i ∧ Hid (OwnR wr w5.heap.size 70 21 v (keptL G E L0 i).length (rxB (keptL G E L0 i))) ∧ Hid (Below w5.heap.size w5 wr)) (fun _ t _ => n - (intOf t).toNat)
      case atStart => exact ⟨0, by omega, rfl, Lib.hid (OwnR.nil _ _ _ _ _), Lib.hid (Below.refl _ _)⟩
      case round =>
        obtain ⟨i, hi, rfl, HK, HBo⟩ := hrel
        by_cases hin : i < n
        · have HIN := Lib.hid hin
          have hii : (i : Int) < (n : Int) := by omega
          have hi0 : (0 : Int) ≤ (i : Int) := by omega
          have hib : (i : Int) < 1000 := by have := HN.out; omega
          clear hin hi
          obtain ⟨b0, o0, rfl, r0⟩ := (HRR.out _ (HB.out.trans (HBo.out.mono HB.out.size))).1.row (by have := HIN.out; omega)
          have R0 := Lib.hid (r0.2 i HIN.out)
          clear r0
          go_wp2_with (refine wpList_ld (op := ⟨some 59, _, _, _, _, _⟩) (by rfl) 70 (.tmp 58) rfl b0 (o0 + i * 21) rfl (rxC (L0 i)) _ R0.out Try.underlying70 rfl info_rt ?_; refine Hid.out ?_)
          refine Lib.hid ?_
          clear R0
          obtain ⟨NK10, hNK10⟩ : ∃ N, wr.heap.size = N := ⟨_, rfl⟩
          have HNK10 := Lib.hid hNK10
          clear hNK10
          go_wp2_with (refine wpList_new (op := ⟨some 10, _, _, _, _, _⟩) rfl 70 rfl (rxC rx0) zero_rt NK10 HNK10.out ?_; intro w11 k1 b1 s1; refine Hid.out ?_)
          refine Lib.hid ?_
          have KX := Lib.hid k1
          have BX := Lib.hid b1
          clear k1 b1 s1
          go_wp2_with (refine wpList_st rfl 70 (.tmp 10) (.tmp 59) rfl NK10 0 rfl (.agg (rxC (L0 i))) (rxC (L0 i)) rfl rfl info_rt (rx_one _) KX.out (Nat.le_of_ble_eq_true rfl) (C' := rxC (L0 i)) (rx_over _ _) ?_; intro w12 q1; refine Hid.out ?_)
          refine Lib.hid ?_
          have b1 : Below wr.heap.size wr w12 := BX.out.trans (q1.2.1 _ (by rw [HNK10.out]; exact Nat.le_refl _))
          have HKn := Lib.hid (HK.out.below b1)
          clear HK
          have HK := HKn
          clear HKn
          have HBon := Lib.hid (HBo.out.trans (b1.mono HBo.out.size))
          clear HBo
          have HBo := HBon
          clear HBon
          have K10 : Hid (Blk 70 w12 NK10 (rxC (L0 i))) := Lib.hid q1.1
          clear KX BX q1 b1 HNK10
          have hgI : (G.length : Int) ≤ 9223372036854775807 := by have := HKL.out; omega
          go_wp2_with fail
          go_loopw [11, 62] (fun v t wx => ∃ (j : Nat) (b : Bool), j ≤ G.length ∧ v = .bool b ∧ t = .int .i64 j ∧ Hid (b = true ↔ (True) ∧ (∀ j2, j2 < j → ¬ SameP (G.getD j2 pf0) (L0 i).r.p)) ∧ Hid (Below w12.heap.size w12 wx)) (fun _ t _ => G.length - (intOf t).toNat)
          case atStart => exact ⟨0, true, by omega, rfl, rfl, Lib.hid ⟨fun _ => ⟨trivial, fun j hj => by omega⟩, fun _ => rfl⟩, Lib.hid (Below.refl _ _)⟩
          case round =>
            obtain ⟨j, b, hj, rfl, rfl, HQ, HBi⟩ := hrel
            by_cases hjn : j < G.length
            · have HJN := Lib.hid hjn
              have K10n := Lib.hid (K10.out.below HBi.out K10.out.lt)
              clear K10
              have K10 := K10n
              clear K10n
              have hjj : (j : Int) < (G.length : Int) := by omega
              have hj0 : (0 : Int) ≤ (j : Int) := by omega
              have hjb : (j : Int) < 1000 := by have := HKL.out; omega
              clear hjn hj
              obtain ⟨bg, og, rfl, rg⟩ := HRG.out.row (by have := HJN.out; omega)
              have R0 : Hid (wr.rangeAt bg (og + j * 18) (pfC (G.getD j pf0)).toList) := Lib.hid (rangeAt_below (rg.2 j HJN.out) (HBo.out.trans (HBi.out.mono HBo.out.size)) rg.1)
              clear rg
              have HPZ := Lib.hid (HGB.out j HJN.out)
              go_wp2_with (refine wpList_ld (op := ⟨some 65, _, _, _, _, _⟩) (by rfl) 32 (.tmp 64) rfl bg (og + j * 18) rfl (pfC (G.getD j pf0)) _ R0.out Try.underlying32 rfl (hi_pv _ _ _) ?_; refine Hid.out ?_)
              refine Lib.hid ?_
              clear R0
              obtain ⟨NK13, hNK13⟩ : ∃ N, wr.heap.size = N := ⟨_, rfl⟩
              have HNK13 := Lib.hid hNK13
              clear hNK13
              go_wp2_with (refine wpList_new (op := ⟨some 13, _, _, _, _, _⟩) rfl 32 rfl (pvC 0 0 Z0) zero_pvT NK13 HNK13.out ?_; intro w13 k1 b1 s1; refine Hid.out ?_)
              refine Lib.hid ?_
              have KX := Lib.hid k1
              have BX := Lib.hid b1
              clear k1 b1 s1
              go_wp2_with (refine wpList_st rfl 32 (.tmp 13) (.tmp 65) rfl NK13 0 rfl (.agg (pfC (G.getD j pf0))) (pfC (G.getD j pf0)) rfl rfl info_pv (all_pv _ _ _) KX.out (Nat.le_of_ble_eq_true rfl) (C' := pfC (G.getD j pf0)) (pv_over _ _ _ _ _ _) ?_; intro w14 q1; refine Hid.out ?_)
              refine Lib.hid ?_
              have b1 : Below wr.heap.size wr w14 := BX.out.trans (q1.2.1 _ (by rw [HNK13.out]; exact Nat.le_refl _))
              have HBin := Lib.hid (HBi.out.trans (b1.mono HBi.out.size))
              clear HBi
              have HBi := HBin
              clear HBin
              have K10n := Lib.hid (K10.out.below b1 K10.out.lt)
              clear K10
              have K10 := K10n
              clear K10n
              have K13 : Hid (Blk 32 w14 NK13 (pfC (G.getD j pf0))) := Lib.hid q1.1
              clear KX BX q1 b1 HNK13
              cases b with
              | false =>
                go_wp2_with fail
                go_roundw
                case rel => exact ⟨j + 1, false, HJN.out, rfl, by go_num, Lib.hid ⟨(fun h => by cases h), fun h => HQ.out.2 ⟨h.1, fun j2 h2 => h.2 j2 (by omega)⟩⟩, HBi⟩
                case measure => have := HJN.out; simp only [intOf]; omega
              | true =>
                obtain ⟨rq, hrq⟩ : ∃ r, (!decide ((G.getD j pf0).fam = (L0 i).r.p.fam ∧ (G.getD j pf0).len = (L0 i).r.p.len ∧ Same16 (G.getD j pf0).z (L0 i).r.p.z)) = r := ⟨_, rfl⟩
                have HRQ := Lib.hid hrq
                clear hrq
                go_wp2_with (refine wpList_ld (op := ⟨some 68, _, _, _, _, _⟩) (by rfl) 32 (.tmp 13) rfl NK13 0 rfl (pfC (G.getD j pf0)) _ K13.out.all Try.underlying32 rfl (hi_pv _ _ _) ?_; refine Hid.out ?_)
                refine Lib.hid ?_
                go_wp2_with (refine wpList_ld (op := ⟨some 70, _, _, _, _, _⟩) (by rfl) 32 (.tmp 69) rfl NK10 0 rfl (pfC (L0 i).r.p) _ K10.out.rxpf Try.underlying32 rfl (hi_pv _ _ _) ?_; refine Hid.out ?_)
                refine Lib.hid ?_
                go_wp2_with (refine wpList_gv (op := ⟨some 71, _, _, _, _, _⟩) (.bool rq) (by rfl) (neq_is rq HRQ.out _ _ _ _ rfl HPZ.out (HRB.out i).p rfl rfl _) ?_; refine Hid.out ?_)
                refine Lib.hid ?_
                go_wp2_with fail
                go_roundw
                case rel => exact ⟨j + 1, rq, HJN.out, rfl, by go_num, Lib.hid (kept_step HRQ.out HQ.out), HBi⟩
                case measure => have := HJN.out; simp only [intOf]; omega
            · obtain hje : j = G.length := by omega
              subst hje
              clear hj hjn
              obtain ⟨wi, hwi⟩ : ∃ x : World, x = wr := ⟨_, rfl⟩
              subst hwi
              have b1 := HBi.out
              clear HBi
              have HKn := Lib.hid (HK.out.below b1)
              clear HK
              have HK := HKn
              clear HKn
              have HBon := Lib.hid (HBo.out.trans (b1.mono HBo.out.size))
              clear HBo
              have HBo := HBon
              clear HBon
              have K10n := Lib.hid (K10.out.below b1 K10.out.lt)
              clear K10
              have K10 := K10n
              clear K10n
              clear b1
              have HQG : Hid (b = true ↔ ∀ j2, j2 < G.length → ¬ SameP (G.getD j2 pf0) (L0 i).r.p) := Lib.hid ⟨fun h => (HQ.out.1 h).2, fun h => HQ.out.2 ⟨trivial, h⟩⟩
              clear HQ
              have hgI2 : (E.length : Int) ≤ 9223372036854775807 := by have := HKL.out; omega
              obtain ⟨b8, hb8⟩ : ∃ x : Bool, x = b := ⟨_, rfl⟩
              subst hb8
              go_wp2_with fail
              go_loopw [11, 76] (fun v t wx => ∃ (j : Nat) (b : Bool), j ≤ E.length ∧ v = .bool b ∧ t = .int .i64 j ∧ Hid (b = true ↔ ((∀ j2, j2 < G.length → ¬ SameP (G.getD j2 pf0) (L0 i).r.p)) ∧ (∀ j2, j2 < j → ¬ SameP ((E.getD j2 rx0).r.p) (L0 i).r.p)) ∧ Hid (Below wi.heap.size wi wx)) (fun _ t _ => E.length - (intOf t).toNat)
              case atStart => exact ⟨0, b8, by omega, rfl, rfl, Lib.hid ⟨fun h => ⟨HQG.out.1 h, fun j hj => by omega⟩, fun h => HQG.out.2 h.1⟩, Lib.hid (Below.refl _ _)⟩
              case round =>
                obtain ⟨j, b, hj, rfl, rfl, HQ, HBi⟩ := hrel
                by_cases hjn : j < E.length
                · have HJN := Lib.hid hjn
                  have K10n := Lib.hid (K10.out.below HBi.out K10.out.lt)
                  clear K10
                  have K10 := K10n
                  clear K10n
                  have hjj : (j : Int) < (E.length : Int) := by omega
                  have hj0 : (0 : Int) ≤ (j : Int) := by omega
                  have hjb : (j : Int) < 1000 := by have := HKL.out; omega
                  clear hjn hj
                  obtain ⟨bg, og, rfl, rg⟩ := HRE.out.row (by have := HJN.out; omega)
                  have R0 : Hid (wr.rangeAt bg (og + j * 21) (rxC (E.getD j rx0)).toList) := Lib.hid (rangeAt_below (rg.2 j HJN.out) (HBo.out.trans (HBi.out.mono HBo.out.size)) rg.1)
                  clear rg
                  have HPZ := Lib.hid (HEB.out j HJN.out).1.p
                  go_wp2_with (refine wpList_ld (op := ⟨some 79, _, _, _, _, _⟩) (by rfl) 70 (.tmp 78) rfl bg (og + j * 21) rfl (rxC (E.getD j rx0)) _ R0.out Try.underlying70 rfl info_rt ?_; refine Hid.out ?_)
                  refine Lib.hid ?_
                  clear R0
                  obtain ⟨NK15, hNK15⟩ : ∃ N, wr.heap.size = N := ⟨_, rfl⟩
                  have HNK15 := Lib.hid hNK15
                  clear hNK15
                  go_wp2_with (refine wpList_new (op := ⟨some 15, _, _, _, _, _⟩) rfl 70 rfl (rxC rx0) zero_rt NK15 HNK15.out ?_; intro w15 k1 b1 s1; refine Hid.out ?_)
                  refine Lib.hid ?_
                  have KX := Lib.hid k1
                  have BX := Lib.hid b1
                  clear k1 b1 s1
                  go_wp2_with (refine wpList_st rfl 70 (.tmp 15) (.tmp 79) rfl NK15 0 rfl (.agg (rxC (E.getD j rx0))) (rxC (E.getD j rx0)) rfl rfl info_rt (rx_one _) KX.out (Nat.le_of_ble_eq_true rfl) (C' := rxC (E.getD j rx0)) (rx_over _ _) ?_; intro w16 q1; refine Hid.out ?_)
                  refine Lib.hid ?_
                  have b1 : Below wr.heap.size wr w16 := BX.out.trans (q1.2.1 _ (by rw [HNK15.out]; exact Nat.le_refl _))
                  have HBin := Lib.hid (HBi.out.trans (b1.mono HBi.out.size))
                  clear HBi
                  have HBi := HBin
                  clear HBin
                  have K10n := Lib.hid (K10.out.below b1 K10.out.lt)
                  clear K10
                  have K10 := K10n
                  clear K10n
                  have K15 : Hid (Blk 70 w16 NK15 (rxC (E.getD j rx0))) := Lib.hid q1.1
                  clear KX BX q1 b1 HNK15
                  cases b with
                  | false =>
                    go_wp2_with fail
                    go_roundw
                    case rel => exact ⟨j + 1, false, HJN.out, rfl, by go_num, Lib.hid ⟨(fun h => by cases h), fun h => HQ.out.2 ⟨h.1, fun j2 h2 => h.2 j2 (by omega)⟩⟩, HBi⟩
                    case measure => have := HJN.out; simp only [intOf]; omega
                  | true =>
                    obtain ⟨rq, hrq⟩ : ∃ r, (!decide ((E.getD j rx0).r.p.fam = (L0 i).r.p.fam ∧ (E.getD j rx0).r.p.len = (L0 i).r.p.len ∧ Same16 (E.getD j rx0).r.p.z (L0 i).r.p.z)) = r := ⟨_, rfl⟩
                    have HRQ := Lib.hid hrq
                    clear hrq
                    go_wp2_with (refine wpList_ld (op := ⟨some 83, _, _, _, _, _⟩) (by rfl) 32 (.tmp 82) rfl NK15 0 rfl (pfC (E.getD j rx0).r.p) _ K15.out.rxpf Try.underlying32 rfl (hi_pv _ _ _) ?_; refine Hid.out ?_)
                    refine Lib.hid ?_
                    go_wp2_with (refine wpList_ld (op := ⟨some 85, _, _, _, _, _⟩) (by rfl) 32 (.tmp 84) rfl NK10 0 rfl (pfC (L0 i).r.p) _ K10.out.rxpf Try.underlying32 rfl (hi_pv _ _ _) ?_; refine Hid.out ?_)
                    refine Lib.hid ?_
                    go_wp2_with (refine wpList_gv (op := ⟨some 86, _, _, _, _, _⟩) (.bool rq) (by rfl) (neq_is rq HRQ.out _ _ _ _ rfl HPZ.out (HRB.out i).p rfl rfl _) ?_; refine Hid.out ?_)
                    refine Lib.hid ?_
                    go_wp2_with fail
                    go_roundw
                    case rel => exact ⟨j + 1, rq, HJN.out, rfl, by go_num, Lib.hid (kept_step (F := fun j => (E.getD j rx0).r.p) HRQ.out HQ.out), HBi⟩
                    case measure => have := HJN.out; simp only [intOf]; omega
                · obtain hje : j = E.length := by omega
                  subst hje
                  clear hj hjn
                  obtain ⟨wj, hwj⟩ : ∃ x : World, x = wr := ⟨_, rfl⟩
                  subst hwj
                  have b1 := HBi.out
                  clear HBi
                  have HKn := Lib.hid (HK.out.below b1)
                  clear HK
                  have HK := HKn
                  clear HKn
                  have HBon := Lib.hid (HBo.out.trans (b1.mono HBo.out.size))
                  clear HBo
                  have HBo := HBon
                  clear HBon
                  have K10n := Lib.hid (K10.out.below b1 K10.out.lt)
                  clear K10
                  have K10 := K10n
                  clear K10n
                  clear b1
                  have HKP : Hid (b = true ↔ Keep G E (L0 i).r) := Lib.hid HQ.out
                  clear HQ HQG
                  have HKN : Hid ((keptL G E L0 i).length ≤ 40) := Lib.hid (by have := kept_len G E L0 i; have := HIN.out; have := HN.out; omega)
                  cases b with
                  | false =>
                    have HNK : Hid (¬ Keep G E (L0 i).r) := Lib.hid (fun h => by have h9 := HKP.out.2 h; simp at h9)
                    go_wp2_with fail
                    go_roundw
                    case rel => exact ⟨i + 1, HIN.out, by go_num, Lib.hid (by rw [kept_no HNK.out]; exact HK.out), HBo⟩
                    case measure => have := HIN.out; simp only [intOf]; omega
                  | true =>
                    have HYK : Hid (Keep G E (L0 i).r) := Lib.hid (HKP.out.1 (by first | rfl | trivial))
                    go_wp2_with (refine wpList_ld (op := ⟨some 91, _, _, _, _, _⟩) (by rfl) 70 (.tmp 10) rfl NK10 0 rfl (rxC (L0 i)) _ K10.out.all Try.underlying70 rfl info_rt ?_; refine Hid.out ?_)
                    refine Lib.hid ?_
                    obtain ⟨P1, hP1⟩ : ∃ N, wj.heap.size = N := ⟨_, rfl⟩
                    have HP1 := Lib.hid hP1
                    clear hP1
                    go_wp2_with (refine wpList_bs (op := ⟨some 92, _, _, _, _, _⟩) rfl 70 (rxC (L0 i)) (bs_rt _ _ _ rfl (L0 i) rfl) P1 HP1.out ?_; intro wa k1 b1 s9; refine Hid.out ?_)
                    refine Lib.hid ?_
                    have HRN : Hid (RdR wa (some ⟨P1, 0, none⟩) 1 21 (fun _ => rxC (L0 i))) := Lib.hid (rdR_blk k1)
                    have HKn := Lib.hid (HK.out.below b1)
                    clear HK
                    have HK := HKn
                    clear HKn
                    have HBon := Lib.hid (HBo.out.trans (b1.mono HBo.out.size))
                    clear HBo
                    have HBo := HBon
                    clear HBon
                    have K10n := Lib.hid (K10.out.below b1 K10.out.lt)
                    clear K10
                    have K10 := K10n
                    clear K10n
                    clear k1 s9 b1 HP1
                    have HZ := Lib.hid HBo.out.size
                    go_wp2_with (refine app_Y (o := ⟨some 93, _, _, _, _, _⟩) 60 70 21 72 (.agg (rxC rx0)) Try.underlying60 info_rtE rfl (by decide) rfl (.tmp 90) (.tmp 92) rfl _ _ _ _ rfl HK.out HZ.out ⟨P1, 0, none⟩ 1 1 (fun _ => rxC (L0 i)) rfl HRN.out (recs_rx (fun _ => L0 i)) (by have := HKN.out; unfold maxLen; omega) (by have := HKN.out; omega) ?_; intro vb wb ho9 hg9 hk9; refine Hid.out ?_)
                    refine Lib.hid ?_
                    have HBn := Lib.hid (HBo.out.trans (below_grown hg9 HZ.out hk9))
                    clear HBo
                    have HBo := HBn
                    clear HBn
                    have HGn : Hid (OwnR wb w5.heap.size 70 21 vb (keptL G E L0 (i + 1)).length (rxB (keptL G E L0 (i + 1)))) := Lib.hid (by rw [kept_yes HYK.out]; exact own_rx ho9)
                    clear ho9 hg9 hk9 HRN HZ
                    go_wp2_with fail
                    go_roundw
                    case rel => exact ⟨i + 1, HIN.out, by go_num, HGn, HBo⟩
                    case measure => have := HIN.out; simp only [intOf]; omega
        · obtain hie : i = n := by omega
          subst hie
          clear hi hin
          obtain ⟨K, hK⟩ : ∃ K, keptL G E L0 i = K := ⟨_, rfl⟩
          rw [hK] at HK
          have hKN : K.length ≤ 40 := by rw [← hK]; have := kept_len G E L0 i; have := HN.out; omega
          have HKN := Lib.hid hKN
          have HLO := Lib.hid (laid_ok HTA.out HTB.out HPA.out HPB.out HC0.out HC1.out HRB.out HRB1.out (HE1.out.nd) HG.out HE.out hK)
          obtain ⟨L, hL⟩ : ∃ L, K ++ E = L := ⟨_, rfl⟩
          rw [hL] at HLO
          have HLE := Lib.hid hL
          have HKM : Hid (∀ y, y ∈ K → ∃ q, q < i ∧ L0 q = y) := Lib.hid (fun y hy => by rw [← hK] at hy; obtain ⟨q, hq, e, _⟩ := mem_kept.1 hy; exact ⟨q, hq, e⟩)
          clear hK hKN hL
          obtain ⟨wl, hwl⟩ : ∃ x : World, x = wr := ⟨_, rfl⟩
          subst hwl
          have b1 := HBo.out
          have HBn := Lib.hid (HB.out.trans (b1.mono HB.out.size))
          clear HB
          have HB := HBn
          clear HBn
          clear b1
          have HFE : Hid (∀ y, y ∈ L → Form y.r.p.fam y.r.p.len y.r.p.z ∧ RtB y.r) := Lib.hid (fun y hy => by obtain ⟨q, hq, e⟩ := HLO.out.1 y hy; rw [e]; exact ⟨HE2.out.form q hq, HRB1.out q⟩)
          have HHO : Hid (∀ W, Below wl.heap.size wl W → ∀ y, y ∈ L → HopAt W y) := Lib.hid (fun W hW y hy => by rw [← HLE.out] at hy; rcases List.mem_append.1 hy with h | h; obtain ⟨q, hq, e⟩ := HKM.out y h; rw [← e]; exact (HRR.out _ (HB.out.trans (hW.mono HB.out.size))).2 q hq; obtain ⟨j, hj, ej⟩ := mem_at h; rw [← ej]; exact (HEB.out j hj).2.below (HBo.out.trans (hW.mono HBo.out.size)))
          have HEN : Hid (E.length ≤ 1000 ∧ K.length ≤ 1000) := Lib.hid (by have := HKL.out; have := HKN.out; omega)
          have HZ := Lib.hid HBo.out.size
          have HRE2 := Lib.hid (HRE.out.below HBo.out rfl)
          go_wp2_with (refine wpList_rapp (o := ⟨some 98, _, _, _, _, _⟩) (.tmp 96) (.tmp 97) rfl rfl w5.heap.size _ K.length (rxB K) rfl HK.out Ae E.length ce (rxB E) rfl HAE.out HRE2.out (rxB_recs E) HEN.out.2 HEN.out.1 HZ.out ?_; intro va wm ho9 hb9; refine Hid.out ?_)
          refine Lib.hid ?_
          have HOA : Hid (OwnR wm w5.heap.size 70 21 va L.length (rxB L)) := Lib.hid (by rw [← HLE.out, List.length_append]; exact ho9.congr (rx_cat K E))
          have HB9 := Lib.hid hb9
          clear ho9 hb9
          obtain ⟨Aa, ca, rfl, g91, g92, g93, hra⟩ := HOA.out.shape (rxB_recs _) (by decide)
          have HRA := Lib.hid hra
          clear g91 g92 g93 hra
          have HBn := Lib.hid (HB.out.trans (HB9.out.mono HW5.out))
          clear HB
          have HB := HBn
          clear HBn
          have HHM : Hid (∀ y, y ∈ L → HopAt wm y) := Lib.hid (fun y hy => by rw [← HLE.out] at hy; rcases List.mem_append.1 hy with h | h; obtain ⟨q, hq, e⟩ := HKM.out y h; rw [← e]; exact (HRR.out _ HB.out).2 q hq; obtain ⟨j, hj, ej⟩ := mem_at h; rw [← ej]; exact (HEB.out j hj).2.below (HBo.out.trans HB9.out))
          have HBU := Lib.hid (build_at (c := ca) (n := L.length) (X := fun j => L.getD j rx0) HRA.out (fun j hj => HHM.out _ (S_mem rfl hj)) (fun j hj => (HFE.out _ (S_mem rfl hj)).2.p) (by rw [← HLE.out, List.length_append]; have := HEN.out; have := HKL.out; have := HKN.out; omega) (fun j hj => (HFE.out _ (S_mem rfl hj)).1) (pw_at HLO.out.2.2))
          go_wp2_with fail
          refine (HBU.out).mono ?_
          rintro e w6 ⟨b1, t3, s3, A3, c3, S3, T3, rfl, ht3, hp3, ha3⟩
          have HBn := Lib.hid (HB.out.trans (b1.mono HB.out.size))
          clear HB
          have HB := HBn
          clear HBn
          clear b1
          have HT3 := Lib.hid ht3
          clear ht3
          have HP3 := Lib.hid hp3
          clear hp3
          have HA3 := Lib.hid ha3
          clear ha3
          clear HOA HRA HHM HHO HK HB9 HZ HRE2
          go_wp2_with fail
          refine (twin_any L1 a1 m cap1 w6 (HRR1.out _ HB.out).1 (HRR1.out _ HB.out).2 (by have := HM.out; omega)).mono ?_
          rintro e w7 ⟨v2, S2c, rfl, hc, b1⟩
          have HBn := Lib.hid (HB.out.trans (b1.mono HB.out.size))
          clear HB
          have HB := HBn
          clear HBn
          have HT3n := Lib.hid (HT3.out.below b1)
          clear HT3
          have HT3 := HT3n
          clear HT3n
          clear b1
          have HCA := Lib.hid hc
          clear hc
          go_wp2_with fail
          refine (build_atC HCA.out (fun j _ => (HRB1.out j).p) (by have := HM.out; omega) HE2.out.form HE2.out.nd).mono ?_
          rintro e w8 ⟨b1, t4, s4, A4, c4, S4, T4, rfl, ht4, hp4, ha4⟩
          have HBn := Lib.hid (HB.out.trans (b1.mono HB.out.size))
          clear HB
          have HB := HBn
          clear HBn
          have HT3n := Lib.hid (HT3.out.below b1)
          clear HT3
          have HT3 := HT3n
          clear HT3n
          have HCAn := Lib.hid (HCA.out.below b1)
          clear HCA
          have HCA := HCAn
          clear HCAn
          clear b1
          have HT4 := Lib.hid ht4
          clear ht4
          have HP4 := Lib.hid hp4
          clear hp4
          have HA4 := Lib.hid ha4
          clear ha4
          clear HCA
          go_wp2_with fail
          refine (twin_any L1 a1 m cap1 w8 (HRR1.out _ HB.out).1 (HRR1.out _ HB.out).2 (by have := HM.out; omega)).mono ?_
          rintro e w9 ⟨v5, S5c, rfl, hc, b1⟩
          have HBn := Lib.hid (HB.out.trans (b1.mono HB.out.size))
          clear HB
          have HB := HBn
          clear HBn
          have HT3n := Lib.hid (HT3.out.below b1)
          clear HT3
          have HT3 := HT3n
          clear HT3n
          have HT4n := Lib.hid (HT4.out.below b1)
          clear HT4
          have HT4 := HT4n
          clear HT4n
          clear b1
          have HCA := Lib.hid hc
          clear hc
          go_wp2_with fail
          refine (twin_any L1 a1 m cap1 w9 (HRR1.out _ HB.out).1 (HRR1.out _ HB.out).2 (by have := HM.out; omega)).mono ?_
          rintro e w10 ⟨v6, S6c, rfl, hc, b1⟩
          have HBn := Lib.hid (HB.out.trans (b1.mono HB.out.size))
          clear HB
          have HB := HBn
          clear HBn
          have HT3n := Lib.hid (HT3.out.below b1)
          clear HT3
          have HT3 := HT3n
          clear HT3n
          have HT4n := Lib.hid (HT4.out.below b1)
          clear HT4
          have HT4 := HT4n
          clear HT4n
          have HCAn := Lib.hid (HCA.out.below b1)
          clear HCA
          have HCA := HCAn
          clear HCAn
          clear b1
          have HCB := Lib.hid hc
          clear hc
          go_wp2_with fail
          refine (diff_cpy HCA.out HCB.out (fun j _ => HRB1.out j) (fun j _ => HRB1.out j) (by have := HM.out; omega) (by have := HM.out; omega)).mono ?_
          rintro e w11 ⟨b1, h⟩
          have HBn := Lib.hid (HB.out.trans (b1.mono HB.out.size))
          clear HB
          have HB := HBn
          clear HBn
          have HT3n := Lib.hid (HT3.out.below b1)
          clear HT3
          have HT3 := HT3n
          clear HT3n
          have HT4n := Lib.hid (HT4.out.below b1)
          clear HT4
          have HT4 := HT4n
          clear HT4n
          clear b1 HCA HCB
          rcases h with ⟨e1, e2, he1, he2, hne, rfl⟩ | ⟨S7, S8, T7, T8, v7, v8, t7, s7, t8, s8, c7, c8, A7, A8, he1, he2, rfl, ht, ht2, hp, ha, hp2, ha2, ho1, ho2, hhi⟩
          · exact absurd ⟨ErrX.one he1 HE2.out, ErrX.one he2 HE2.out⟩ hne
          obtain ⟨A9, c9, rfl⟩ := diff_nil ho1 (by rw [gone_self ht ht2 hp hp2]; rfl)
          obtain ⟨A10, c10, rfl⟩ := diff_nilR ho2 (new_self ht ht2 hp hp2 HE2.out.nd)
          clear he1 he2 ht ht2 hp ha hp2 ha2 ho1 ho2 hhi
          have HON := Lib.hid (tabs_one HT3.out HT4.out HP3.out HP4.out HA3.out HA4.out (fun j hj => (HFE.out _ (S_mem rfl hj)).1) HE2.out.form (fun j hj => (HFE.out _ (S_mem rfl hj)).2.p) (fun j _ => (HRB1.out j).p) (fun r => ⟨fun ⟨j, hj, e⟩ => by obtain ⟨q, hq, eq⟩ := HLO.out.1 _ (S_mem rfl hj); exact ⟨q, hq, by rw [← eq]; exact e⟩, fun ⟨q, hq, e⟩ => by obtain ⟨y, hy, ey⟩ := HLO.out.2.1 q hq; obtain ⟨j, hj, ej⟩ := mem_at hy; exact ⟨j, hj, by show (L.getD j rx0).r = r; rw [ej, ey]; exact e⟩⟩))
          go_wp2_with fail
          refine (tlistR_any t3 s3 _ A3 c3 S3 T3 _ HT3.out).mono ?_
          rintro e w12 ⟨v9, R9, rfl, hc9, b1⟩
          have HC9 := Lib.hid hc9
          clear hc9
          have HBn := Lib.hid (HB.out.trans (b1.mono HB.out.size))
          clear HB
          have HB := HBn
          clear HBn
          have HT3n := Lib.hid (HT3.out.below b1)
          clear HT3
          have HT3 := HT3n
          clear HT3n
          have HT4n := Lib.hid (HT4.out.below b1)
          clear HT4
          have HT4 := HT4n
          clear HT4n
          clear b1
          go_wp2_with fail
          refine (tlistR_any t4 s4 _ A4 c4 S4 T4 _ HT4.out).mono ?_
          rintro e w13 ⟨v10, R10, rfl, hc9, b1⟩
          rw [← HON.out.1] at hc9
          have HC10 := Lib.hid hc9
          clear hc9
          have HBn := Lib.hid (HB.out.trans (b1.mono HB.out.size))
          clear HB
          have HB := HBn
          clear HBn
          have HT3n := Lib.hid (HT3.out.below b1)
          clear HT3
          have HT3 := HT3n
          clear HT3n
          have HT4n := Lib.hid (HT4.out.below b1)
          clear HT4
          have HT4 := HT4n
          clear HT4n
          have HC9n := Lib.hid (HC9.out.below b1)
          clear HC9
          have HC9 := HC9n
          clear HC9n
          clear b1
          obtain ⟨A11, c11, rfl, g91, g92, g93, hr1⟩ := HC9.out.own.shape (rxB_recs _) (by decide)
          obtain ⟨A12, c12, rfl, g94, g95, g96, hr2⟩ := HC10.out.own.shape (rxB_recs _) (by decide)
          have HR1 := Lib.hid hr1
          have HR2 := Lib.hid hr2
          clear g91 g92 g93 g94 g95 g96 hr1 hr2
          go_wp2_with fail
          refine (same_any (fun j => R9.getD j rx0) (fun j => R10.getD j rx0) A11 A12 L.length c11 c12 w13 HR1.out HR2.out (fun j hj => by rw [HC9.out.same j hj, HC10.out.same j hj]; exact HON.out.2 j hj) (fun j hj => by rw [HC9.out.same j hj]; obtain ⟨q, hq, e⟩ := HP3.out.to j hj; rw [e]; exact (HFE.out _ (S_mem rfl hq)).2) (fun j hj => (HC9.out.hop _ (S_mem HC9.out.len hj)).at) (fun j hj => (HC10.out.hop _ (S_mem HC10.out.len hj)).at) (by rw [← HLE.out, List.length_append]; have := HKL.out; have := HKN.out; omega)).mono ?_
          rintro e w14 ⟨rfl, b1⟩
          have HBn := Lib.hid (HB.out.trans (b1.mono HB.out.size))
          clear HB
          have HB := HBn
          clear HBn
          clear b1
          rename_i hK
          refine hK _ _ ?_
          clear hK
          refine wpList_gv (op := ⟨some 129, _, _, _, _, _⟩) (w' := w14) (.bool true) (by rfl) (by go_simp) ?_
          simp only [Act.put, List.setIfInBounds_toArray, List.set_cons_zero, List.set_cons_succ]
          refine wpList_gv (op := ⟨some 130, _, _, _, _, _⟩) (w' := w14) (.bool true) (by rfl) (by go_simp) ?_
          simp only [Act.put, List.setIfInBounds_toArray, List.set_cons_zero, List.set_cons_succ]
          refine wpList_gv (op := ⟨some 131, _, _, _, _, _⟩) (w' := w14) (.int .i64 0) (by rfl) (by go_simp) ?_
          simp only [Act.put, List.setIfInBounds_toArray, List.set_cons_zero, List.set_cons_succ]
          refine wpList_gv (op := ⟨some 132, _, _, _, _, _⟩) (w' := w14) (.bool true) (by rfl) (by go_simp) ?_
          simp only [Act.put, List.setIfInBounds_toArray, List.set_cons_zero, List.set_cons_succ]
          refine wpList_gv (op := ⟨some 133, _, _, _, _, _⟩) (w' := w14) (.bool true) (by rfl) (by go_simp) ?_
          simp only [Act.put, List.setIfInBounds_toArray, List.set_cons_zero, List.set_cons_succ]
          refine wpList_gv (op := ⟨some 134, _, _, _, _, _⟩) (w' := w14) (.bool true) (by rfl) (by go_simp) ?_
          simp only [Act.put, List.setIfInBounds_toArray, List.set_cons_zero, List.set_cons_succ]
          refine wpList_gv (op := ⟨some 135, _, _, _, _, _⟩) (w' := w14) (.slice A9 0 c9) (by rfl) (by go_simp) ?_
          simp only [Act.put, List.setIfInBounds_toArray, List.set_cons_zero, List.set_cons_succ]
          refine wpList_gv (op := ⟨some 136, _, _, _, _, _⟩) (w' := w14) (.int .i64 0) (by rfl) (by go_simp) ?_
          simp only [Act.put, List.setIfInBounds_toArray, List.set_cons_zero, List.set_cons_succ]
          refine wpList_gv (op := ⟨some 137, _, _, _, _, _⟩) (w' := w14) (.bool true) (by rfl) (by go_simp) ?_
          simp only [Act.put, List.setIfInBounds_toArray, List.set_cons_zero, List.set_cons_succ]
          refine wpList_gv (op := ⟨some 138, _, _, _, _, _⟩) (w' := w14) (.bool true) (by rfl) (by go_simp) ?_
          simp only [Act.put, List.setIfInBounds_toArray, List.set_cons_zero, List.set_cons_succ]
          refine wpList_gv (op := ⟨some 139, _, _, _, _, _⟩) (w' := w14) (.bool true) (by rfl) (by go_simp) ?_
          simp only [Act.put, List.setIfInBounds_toArray, List.set_cons_zero, List.set_cons_succ]
          refine wpList_gv (op := ⟨some 140, _, _, _, _, _⟩) (w' := w14) (.slice A10 0 c10) (by rfl) (by go_simp) ?_
          simp only [Act.put, List.setIfInBounds_toArray, List.set_cons_zero, List.set_cons_succ]
          refine wpList_gv (op := ⟨some 141, _, _, _, _, _⟩) (w' := w14) (.int .i64 0) (by rfl) (by go_simp) ?_
          simp only [Act.put, List.setIfInBounds_toArray, List.set_cons_zero, List.set_cons_succ]
          refine wpList_gv (op := ⟨some 142, _, _, _, _, _⟩) (w' := w14) (.bool true) (by rfl) (by go_simp) ?_
          simp only [Act.put, List.setIfInBounds_toArray, List.set_cons_zero, List.set_cons_succ]
          refine wpList_gv (op := ⟨some 143, _, _, _, _, _⟩) (w' := w14) (.bool true) (by rfl) (by go_simp) ?_
          simp only [Act.put, List.setIfInBounds_toArray, List.set_cons_zero, List.set_cons_succ]
          refine wpList_gv (op := ⟨some 4, _, _, _, _, _⟩) (w' := w14) (.bool true) (by rfl) (by go_simp) ?_
          simp only [Act.put, List.setIfInBounds_toArray, List.set_cons_zero, List.set_cons_succ]
          go_wp2
          first | (go_ret; exact ⟨rfl, HB.out⟩) | exact ⟨.bool true, by simp [results, Try.f10, go_sem], rfl, HB.out⟩ | exact bodyPost_ret (v := .bool true) (by simp [results, Try.f10, go_sem]) rfl ⟨rfl, HB.out⟩
end Go.Proofs.Ytjnbemopfhinbaa
