/- Texts of this claim put together; each theorem states its conditions. -/
import Derived.Test.YtcngkfmjngeofaaGAdjMeet3
import Derived.Deep.DeepCutAuto
import Derived.RegionTactic
/- One side tells the other. Each theorem states its conditions. -/
namespace Go.Proofs.Ytcngkfmjngeofaa
open Go.RowKit
set_option linter.unusedVariables false

/-- a side and what it knows, as cells -/
def sdC (l : Lo) (a : Aj) : Array Value := #[.int .u8 (l.s 0), .int .u8 (l.s 1), .int .u8 (l.s 2), .int .u8 (l.s 3), .int .u8 (l.s 4), .int .u8 (l.s 5), .int .u8 l.nu, .int .i64 l.lv, .slice l.A l.m l.c, .int .i64 a.st, .int .u8 (a.p 0), .int .u8 (a.p 1), .int .u8 (a.p 2), .int .u8 (a.p 3), .int .u8 (a.p 4), .int .u8 (a.p 5), .int .u8 a.nu, .int .i64 a.lv, .int .i64 a.un]
theorem nine {P : Nat → Prop} (h : P 0 ∧ P 1 ∧ P 2 ∧ P 3 ∧ P 4 ∧ P 5 ∧ P 6 ∧ P 7 ∧ P 8) (j : Nat) (hj : j < 9) : P j := by
  rcases (by omega : j = 0 ∨ j = 1 ∨ j = 2 ∨ j = 3 ∨ j = 4 ∨ j = 5 ∨ j = 6 ∨ j = 7 ∨ j = 8) with rfl | rfl | rfl | rfl | rfl | rfl | rfl | rfl | rfl <;> simp_all
theorem ten {P : Nat → Prop} (h : P 0 ∧ P 1 ∧ P 2 ∧ P 3 ∧ P 4 ∧ P 5 ∧ P 6 ∧ P 7 ∧ P 8 ∧ P 9) (j : Nat) (hj : j < 10) : P j := by
  rcases (by omega : j = 0 ∨ j = 1 ∨ j = 2 ∨ j = 3 ∨ j = 4 ∨ j = 5 ∨ j = 6 ∨ j = 7 ∨ j = 8 ∨ j = 9) with rfl | rfl | rfl | rfl | rfl | rfl | rfl | rfl | rfl | rfl <;> simp_all
theorem Blk.sdl {t : TypeId} {w : World} {g : Nat} {l : Lo} {a : Aj} (h : Blk t w g (sdC l a)) : w.rangeAt g 0 (loC l).toList := h.range (nine ⟨rfl, rfl, rfl, rfl, rfl, rfl, rfl, rfl, rfl⟩)
theorem Blk.sda {t : TypeId} {w : World} {g : Nat} {l : Lo} {a : Aj} (h : Blk t w g (sdC l a)) : w.rangeAt g 9 (ajC a).toList := h.range (ten ⟨rfl, rfl, rfl, rfl, rfl, rfl, rfl, rfl, rfl, rfl⟩)
def SpeakP (w : World) (P Q : Nat) (l m : Lo) (a : Aj) (R : Aj × Int) (e : Ending) (w' : World) : Prop :=
  e = .returned (.bool (R.2 == 0)) ∧ Blk 56 w' Q (sdC m R.1) ∧ Blk 56 w' P (sdC l a) ∧ ∀ B, B ≤ Q → Below B w w'
theorem step_tells (l : Lo) (a : Aj) (m : Lo) (b : Aj) (now : Int) (M L M' L2 : Nat → Sl) (A A2 : Option Addr) (c c2 : Nat) (w : World) (hm : byB m.s) (hp : byB b.p) (hs : byB (tellD l a 10).s) (ht : byB (tellD l a 10).th) (hM : RdS w A m.m M') (hL : RdS w A2 (tellD l a 10).m L2) (hmm : m.m ≤ 9223372036854775807) (hlm : (tellD l a 10).m ≤ 9223372036854775807)
    (hMM : ∀ j, j < m.m → sameS (M j) (M' j)) (hLL : ∀ j, j < (tellD l a 10).m → sameS (L2 j) (L j)) (R : Aj × Int) (hR : stepR m b (tellD l a 10) now (shB M m.m L (tellD l a 10).m) = R) :
    Calls Try.prog 13 #[.agg (loC ⟨m.s, m.nu, m.lv, A, m.m, c⟩), .agg (ajC b), .agg (heC (heV (tellD l a 10) A2 c2)), .int .i64 now] w fun e w' => e = .returned (.tuple #[.agg (ajC R.1), .int .i64 R.2]) ∧ Below w.heap.size w w' :=
  step_law m b (tellD l a 10) now M L M' L2 A A2 c c2 w hm hp hs ht hM hL hmm hlm hMM (fun j hj => (hLL j hj).symm) R hR
set_option maxHeartbeats 60000000 in
set_option maxRecDepth 100000 in
theorem speak_any (P Q : Nat) (l m : Lo) (a b : Aj) (now : Int) (L M : Nat → Sl) (w0 w : World) (hP : Blk 56 w P (sdC l a)) (hQ : Blk 56 w Q (sdC m b)) (hPQ : P ≠ Q) (hl : byB l.s) (ha : byB a.p) (hm : byB m.s) (hb : byB b.p) (hB0 : Below w0.heap.size w0 w) (hL : RdS w0 l.A l.m L) (hM : RdS w0 m.A m.m M) (hlm : l.m * 24 ≤ 140737488351232) (hmm : m.m * 24 ≤ 140737488351232) (hE : tellE l a 10 = 0)
    (hPz : w0.heap.size ≤ P) (hQz : w0.heap.size ≤ Q) (R : Aj × Int) (hR : stepR m b (tellD l a 10) now (shB M m.m L (tellD l a 10).m) = R) :
    Calls Try.prog 21 #[.pointer (some ⟨P, 0, none⟩), .pointer (some ⟨Q, 0, none⟩), .int .i64 now] w (SpeakP w P Q l m a R) := by
  obtain ⟨hdS, hdT⟩ := tellD_by l a 10 hl ha
  have HTU := Lib.hid (fun A1 c1 L1 (w' : World) h1 h2 => tell_u l a 10 L A1 c1 L1 w' h1 h2 hlm)
  have hdm := (tellD_rd l a 10 L w0 hL hlm).2
  have HST := Lib.hid (fun (M' L2 : Nat → Sl) A A2 c c2 (w' : World) h1 h2 h3 h4 => step_tells l a m b now M L M' L2 A A2 c c2 w' hm hb hdS hdT h1 h2 (by omega) (by omega) h3 h4 R hR)
  obtain ⟨hd, hhd⟩ : ∃ x, tellD l a 10 = x := ⟨_, rfl⟩
  rw [hhd, hE] at HTU
  rw [hhd] at HST hdm
  have HRL := Lib.hid hL
  have HRM := Lib.hid hM
  have HML := Lib.hid hlm
  have HMM := Lib.hid hmm
  have HPQ := Lib.hid hPQ
  have KP := Lib.hid hP
  have KQ := Lib.hid hQ
  have HQL := Lib.hid hQ.lt
  have HB := Lib.hid hB0
  clear hP hQ hl ha hm hb hB0 hL hM hlm hmm hE hR hhd hdS hdT
  go_enter Try.func21, Try.ntmps21
  have HBQ := Lib.hid (Below.refl w.heap.size w)
  go_wp2_with fail
  go_cut [7, 8] (fun s7 s8 wc => ∃ N A2 c2 L2, s7 = .pointer (some ⟨N, 0, none⟩) ∧ s8 = .int .i64 0 ∧ Hid (Blk 34 wc N (heC (heV hd A2 c2))) ∧ Hid (RdS wc A2 hd.m L2) ∧ Hid (∀ j, j < hd.m → sameS (L2 j) (L j)) ∧ Hid (Blk 56 wc P (sdC l a)) ∧ Hid (Blk 56 wc Q (sdC m b)) ∧ Hid (Below w0.heap.size w0 wc) ∧ Hid (Below w.heap.size w wc))
  case first =>
    refine wp_region_held_drew (S := fun w' => Blk 56 w' P (sdC l a) ∧ Blk 56 w' Q (sdC m b) ∧ Below w0.heap.size w0 w' ∧ Below w.heap.size w w') (by kernel_rfl) ⟨KP.out, KQ.out, HB.out.drew, HBQ.out.drew⟩ (fun hS => ?_)
    generalize hW1 : w.drew = W1 at hS ⊢
    clear hW1
    clear KP
    clear KQ
    clear HB
    clear HBQ
    have KP := Lib.hid hS.1
    have KQ := Lib.hid hS.2.1
    have HB := Lib.hid hS.2.2.1
    have HBQ := Lib.hid hS.2.2.2
    refine takeY (i := 0) (some 12) (v := .pointer (some ⟨P, 0, none⟩)) rfl rfl (by kernel_rfl) (by kernel_rfl) (by kernel_rfl) (fun _ _ _ h => h) (by rfl) (fun w' hS => by go_simp) hS ?_
    simp only [Act.put, List.setIfInBounds_toArray, List.set_cons_zero, List.set_cons_succ]
    refine takeY (i := 1) (some 13) (v := .pointer (some ⟨P, 0, none⟩)) rfl rfl (by kernel_rfl) (by kernel_rfl) (by kernel_rfl) (fun _ _ _ h => h) (by rfl) (fun w' hS => by go_simp) hS ?_
    simp only [Act.put, List.setIfInBounds_toArray, List.set_cons_zero, List.set_cons_succ]
    refine takeY (i := 2) (some 14) (v := .pointer (some ⟨P, 0, none⟩)) rfl rfl (by kernel_rfl) (by kernel_rfl) (by kernel_rfl) (fun _ _ _ h => h) (by rfl) (fun w' hS => by go_simp) hS ?_
    simp only [Act.put, List.setIfInBounds_toArray, List.set_cons_zero, List.set_cons_succ]
    refine takeL (i := 3) (some 15) 26 (.tmp 14) P 0 (loC l) _ rfl rfl (by kernel_rfl) (by kernel_rfl) (by kernel_rfl) (fun _ _ _ h => h) (by rfl) rfl rfl (fun w' hS => hS.1.sdl) Try.underlying26 rfl info_loR hS ?_
    simp only [Act.put, List.setIfInBounds_toArray, List.set_cons_zero, List.set_cons_succ]
    refine takeY (i := 5) (some 17) (v := .pointer (some ⟨P, 0, none⟩)) rfl rfl (by kernel_rfl) (by kernel_rfl) (by kernel_rfl) (fun _ _ _ h => h) (by rfl) (fun w' hS => by go_simp) hS ?_
    simp only [Act.put, List.setIfInBounds_toArray, List.set_cons_zero, List.set_cons_succ]
    refine takeY (i := 6) (some 18) (v := .pointer (some ⟨P, 0, none⟩)) rfl rfl (by kernel_rfl) (by kernel_rfl) (by kernel_rfl) (fun _ _ _ h => h) (by rfl) (fun w' hS => by go_simp) hS ?_
    simp only [Act.put, List.setIfInBounds_toArray, List.set_cons_zero, List.set_cons_succ]
    refine takeY (i := 7) (some 19) (v := .pointer (some ⟨P, 9, none⟩)) rfl rfl (by kernel_rfl) (by kernel_rfl) (by kernel_rfl) (fun _ _ _ h => h) (by rfl) (fun w' hS => by go_simp) hS ?_
    simp only [Act.put, List.setIfInBounds_toArray, List.set_cons_zero, List.set_cons_succ]
    refine takeL (i := 8) (some 20) 36 (.tmp 19) P 9 (ajC a) _ rfl rfl (by kernel_rfl) (by kernel_rfl) (by kernel_rfl) (fun _ _ _ h => h) (by rfl) rfl rfl (fun w' hS => hS.1.sda) Try.underlying36 rfl info_ajP hS ?_
    simp only [Act.put, List.setIfInBounds_toArray, List.set_cons_zero, List.set_cons_succ]
    obtain ⟨M0, hM0⟩ : ∃ N, W1.heap.size = N := ⟨_, rfl⟩
    have HM0 := Lib.hid hM0
    clear hM0
    refine wpAnyH_ready (show Region.ready _ _ _ = [4, 13] from by kernel_rfl) (by simp) (consCE (i := 4) (some 16) 11 #[.agg (loC l)] (R := fun v w' => LocO W1 l L v w') rfl rfl (by rfl) (by go_simp) (local_o l L W1 (HRL.out.below HB.out) HML.out) (fun v w' h => by obtain ⟨A1, c1, L1, rfl, hr1, hs1, hb1⟩ := h; exact ⟨hS.1.below hb1 hS.1.lt, hS.2.1.below hb1 hS.2.1.lt, hS.2.2.1.trans (hb1.mono hS.2.2.1.size), hS.2.2.2.trans (hb1.mono hS.2.2.2.size)⟩) ?_ (consMk (i := 13) (some 7) 34 (heC he0) rfl rfl (by rfl) rfl zero_heP M0 HM0.out ?_ AllReadyH.nil))
    · skip
      clear HM0
      intro v W2 h hS2
      obtain ⟨A1, c1, L1, rfl, hr1, hs1, hb1⟩ := h
      simp only [Act.put, List.setIfInBounds_toArray, List.set_cons_zero, List.set_cons_succ]
      clear KP
      clear KQ
      clear HB
      clear HBQ
      clear hS
      have hS := hS2
      clear hS2
      have KP := Lib.hid hS.1
      have KQ := Lib.hid hS.2.1
      have HB := Lib.hid hS.2.2.1
      have HBQ := Lib.hid hS.2.2.2
      have HXL := Lib.hid hr1
      have HSL := Lib.hid hs1
      clear hr1 hs1 hb1
      obtain ⟨M1, hM1⟩ : ∃ N, W2.heap.size = N := ⟨_, rfl⟩
      have HM1 := Lib.hid hM1
      clear hM1
      refine wpAnyH_ready (show Region.ready _ _ _ = [9, 13] from by kernel_rfl) (by simp) (consCE (i := 9) (some 21) 16 #[.agg (loC ⟨l.s, l.nu, l.lv, A1, l.m, c1⟩), .agg (ajC a), .int .i64 10] (R := fun v w' => ∃ A c L2, v = .tuple #[.agg (heC (heV hd A c)), .int .i64 0] ∧ OwnS w' W2.heap.size (.slice A hd.m c) hd.m L2 ∧ (∀ j, j < hd.m → sameS (L2 j) (L j)) ∧ Below W2.heap.size W2 w') rfl rfl (by rfl) (by go_simp) ((HTU.out A1 c1 L1 W2 (own_rd HXL.out) HSL.out).mono (fun e w' ⟨A, c, L2, h1, h2, h3, h4⟩ => ⟨_, h1, A, c, L2, rfl, h2, h3, h4⟩)) (fun v w' h => by obtain ⟨A2, c2, L2, rfl, hr1, hs1, hb1⟩ := h; exact ⟨hS.1.below hb1 hS.1.lt, hS.2.1.below hb1 hS.2.1.lt, hS.2.2.1.trans (hb1.mono hS.2.2.1.size), hS.2.2.2.trans (hb1.mono hS.2.2.2.size)⟩) ?_ (consMk (i := 13) (some 7) 34 (heC he0) rfl rfl (by rfl) rfl zero_heP M1 HM1.out ?_ AllReadyH.nil))
      · skip
        clear HM1
        intro v W3 h hS2
        obtain ⟨A2, c2, L2, rfl, hr1, hs1, hb1⟩ := h
        simp only [Act.put, List.setIfInBounds_toArray, List.set_cons_zero, List.set_cons_succ]
        have HXLn := Lib.hid (HXL.out.below hb1)
        clear HXL
        have HXL := HXLn
        clear HXLn
        clear KP
        clear KQ
        clear HB
        clear HBQ
        clear hS
        have hS := hS2
        clear hS2
        have KP := Lib.hid hS.1
        have KQ := Lib.hid hS.2.1
        have HB := Lib.hid hS.2.2.1
        have HBQ := Lib.hid hS.2.2.2
        have HXH := Lib.hid hr1
        have HSH := Lib.hid hs1
        clear hr1 hs1 hb1
        clear HXL HSL
        refine takeY (i := 10) (some 11) (v := .tuple #[.agg (heC (heV hd A2 c2)), .int .i64 0]) rfl rfl (by kernel_rfl) (by kernel_rfl) (by kernel_rfl) (fun _ _ _ h => h) (by rfl) (fun w' hS => by go_simp) hS ?_
        simp only [Act.put, List.setIfInBounds_toArray, List.set_cons_zero, List.set_cons_succ]
        refine takeY (i := 11) (some 22) (v := .agg (heC (heV hd A2 c2))) rfl rfl (by kernel_rfl) (by kernel_rfl) (by kernel_rfl) (fun _ _ _ h => h) (by rfl) (fun w' hS => by go_simp) hS ?_
        simp only [Act.put, List.setIfInBounds_toArray, List.set_cons_zero, List.set_cons_succ]
        refine takeY (i := 12) (some 23) (v := .int .i64 0) rfl rfl (by kernel_rfl) (by kernel_rfl) (by kernel_rfl) (fun _ _ _ h => h) (by rfl) (fun w' hS => by go_simp) hS ?_
        simp only [Act.put, List.setIfInBounds_toArray, List.set_cons_zero, List.set_cons_succ]
        obtain ⟨M2, hM2⟩ : ∃ N, W3.heap.size = N := ⟨_, rfl⟩
        have HM2 := Lib.hid hM2
        clear hM2
        refine takeMk (i := 13) (some 7) 34 (heC he0) rfl rfl (by kernel_rfl) (by rfl) rfl zero_heP M2 HM2.out ?_
        · skip
          intro W4 k1 b1 s1
          refine ⟨⟨hS.1.below b1 hS.1.lt, hS.2.1.below b1 hS.2.1.lt, hS.2.2.1.trans (b1.mono hS.2.2.1.size), hS.2.2.2.trans (b1.mono hS.2.2.2.size)⟩, ?_⟩
          simp only [Act.put, List.setIfInBounds_toArray, List.set_cons_zero, List.set_cons_succ]
          have K8 := Lib.hid k1
          clear k1
          have lt_P_M2 : P < M2 := by rw [← HM2.out]; exact KP.out.lt
          have lt_Q_M2 : Q < M2 := by rw [← HM2.out]; exact KQ.out.lt
          have le_HB_M2 : w0.heap.size ≤ M2 := by rw [← HM2.out]; exact HB.out.size
          have le_HBQ_M2 : w.heap.size ≤ M2 := by rw [← HM2.out]; exact HBQ.out.size
          have HXHn := Lib.hid (HXH.out.below b1)
          clear HXH
          have HXH := HXHn
          clear HXHn
          have KPn := Lib.hid (KP.out.below b1 KP.out.lt)
          clear KP
          have KP := KPn
          clear KPn
          have KQn := Lib.hid (KQ.out.below b1 KQ.out.lt)
          clear KQ
          have KQ := KQn
          clear KQn
          have HBn := Lib.hid (HB.out.trans (b1.mono HB.out.size))
          clear HB
          have HB := HBn
          clear HBn
          have HBQn := Lib.hid (HBQ.out.trans (b1.mono HBQ.out.size))
          clear HBQ
          have HBQ := HBQn
          clear HBQn
          clear b1 HM2 hS
          have hS := (And.intro KP.out (And.intro KQ.out (And.intro HB.out HBQ.out)))
          refine takeSt (i := 14) 34 (.tmp 7) (.tmp 22) M2 0 (.agg (heC (heV hd A2 c2))) (heC (heV hd A2 c2)) (heC (heV hd A2 c2)) rfl rfl (by kernel_rfl) (by rfl) rfl rfl rfl rfl info_heP (heC_one _) K8.out (Nat.le_of_ble_eq_true rfl) (by kernel_rfl) ?_
          intro W5 q1
          refine ⟨⟨KP.out.far q1 (by omega), KQ.out.far q1 (by omega), HB.out.trans (q1.2.1 _ (by omega)), HBQ.out.trans (q1.2.1 _ (by omega))⟩, ?_⟩
          simp only [Act.put, List.setIfInBounds_toArray, List.set_cons_zero, List.set_cons_succ]
          have HXHn := Lib.hid (HXH.out.farT K8.out neL1 neL2 q1)
          clear HXH
          have HXH := HXHn
          clear HXHn
          have K8n : Hid (Blk 34 W5 M2 (heC (heV hd A2 c2))) := Lib.hid q1.1
          clear K8
          have K8 := K8n
          clear K8n
          have KPn := Lib.hid (KP.out.far q1 (by omega))
          clear KP
          have KP := KPn
          clear KPn
          have KQn := Lib.hid (KQ.out.far q1 (by omega))
          clear KQ
          have KQ := KQn
          clear KQn
          have HBn := Lib.hid (HB.out.trans (q1.2.1 _ (by omega)))
          clear HB
          have HB := HBn
          clear HBn
          have HBQn := Lib.hid (HBQ.out.trans (q1.2.1 _ (by omega)))
          clear HBQ
          have HBQ := HBQn
          clear HBQn
          clear q1 hS
          have hS := (And.intro KP.out (And.intro KQ.out (And.intro HB.out HBQ.out)))
          refine takeY (i := 15) (some 8) (v := .int .i64 0) rfl rfl (by kernel_rfl) (by kernel_rfl) (by kernel_rfl) (fun _ _ _ h => h) (by rfl) (fun w' hS => by go_simp) hS ?_
          simp only [Act.put, List.setIfInBounds_toArray, List.set_cons_zero, List.set_cons_succ]
          clear hS
          refine wpAnyH_done (by kernel_rfl) ?_ _
          go_wp2_with fail
          go_meet
          case rel => exact ⟨M2, A2, c2, L2, rfl, rfl, K8, Lib.hid (own_rd HXH.out), HSH, KP, KQ, HB, HBQ⟩
      · skip
        intro W3 k1 b1 s1
        refine ⟨⟨hS.1.below b1 hS.1.lt, hS.2.1.below b1 hS.2.1.lt, hS.2.2.1.trans (b1.mono hS.2.2.1.size), hS.2.2.2.trans (b1.mono hS.2.2.2.size)⟩, ?_⟩
        simp only [Act.put, List.setIfInBounds_toArray, List.set_cons_zero, List.set_cons_succ]
        have K8 := Lib.hid k1
        clear k1
        have lt_P_M1 : P < M1 := by rw [← HM1.out]; exact KP.out.lt
        have lt_Q_M1 : Q < M1 := by rw [← HM1.out]; exact KQ.out.lt
        have le_HB_M1 : w0.heap.size ≤ M1 := by rw [← HM1.out]; exact HB.out.size
        have le_HBQ_M1 : w.heap.size ≤ M1 := by rw [← HM1.out]; exact HBQ.out.size
        have HXLn := Lib.hid (HXL.out.below b1)
        clear HXL
        have HXL := HXLn
        clear HXLn
        have KPn := Lib.hid (KP.out.below b1 KP.out.lt)
        clear KP
        have KP := KPn
        clear KPn
        have KQn := Lib.hid (KQ.out.below b1 KQ.out.lt)
        clear KQ
        have KQ := KQn
        clear KQn
        have HBn := Lib.hid (HB.out.trans (b1.mono HB.out.size))
        clear HB
        have HB := HBn
        clear HBn
        have HBQn := Lib.hid (HBQ.out.trans (b1.mono HBQ.out.size))
        clear HBQ
        have HBQ := HBQn
        clear HBQn
        clear b1 HM1 hS
        have hS := (And.intro KP.out (And.intro KQ.out (And.intro HB.out HBQ.out)))
        refine takeCE (i := 9) (some 21) 16 #[.agg (loC ⟨l.s, l.nu, l.lv, A1, l.m, c1⟩), .agg (ajC a), .int .i64 10] (R := fun v w' => ∃ A c L2, v = .tuple #[.agg (heC (heV hd A c)), .int .i64 0] ∧ OwnS w' W3.heap.size (.slice A hd.m c) hd.m L2 ∧ (∀ j, j < hd.m → sameS (L2 j) (L j)) ∧ Below W3.heap.size W3 w') rfl rfl (by kernel_rfl) (by rfl) (by go_simp) ((HTU.out A1 c1 L1 W3 (own_rd HXL.out) HSL.out).mono (fun e w' ⟨A, c, L2, h1, h2, h3, h4⟩ => ⟨_, h1, A, c, L2, rfl, h2, h3, h4⟩)) (fun v w' h => by obtain ⟨A2, c2, L2, rfl, hr1, hs1, hb1⟩ := h; exact ⟨hS.1.below hb1 hS.1.lt, hS.2.1.below hb1 hS.2.1.lt, hS.2.2.1.trans (hb1.mono hS.2.2.1.size), hS.2.2.2.trans (hb1.mono hS.2.2.2.size)⟩) ?_
        · skip
          intro v W4 h hS2
          obtain ⟨A2, c2, L2, rfl, hr1, hs1, hb1⟩ := h
          simp only [Act.put, List.setIfInBounds_toArray, List.set_cons_zero, List.set_cons_succ]
          have HXLn := Lib.hid (HXL.out.below hb1)
          clear HXL
          have HXL := HXLn
          clear HXLn
          have K8n := Lib.hid (K8.out.below hb1 K8.out.lt)
          clear K8
          have K8 := K8n
          clear K8n
          clear KP
          clear KQ
          clear HB
          clear HBQ
          clear hS
          have hS := hS2
          clear hS2
          have KP := Lib.hid hS.1
          have KQ := Lib.hid hS.2.1
          have HB := Lib.hid hS.2.2.1
          have HBQ := Lib.hid hS.2.2.2
          have HXH := Lib.hid hr1
          have HSH := Lib.hid hs1
          clear hr1 hs1 hb1
          clear HXL HSL
          refine takeY (i := 10) (some 11) (v := .tuple #[.agg (heC (heV hd A2 c2)), .int .i64 0]) rfl rfl (by kernel_rfl) (by kernel_rfl) (by kernel_rfl) (fun _ _ _ h => h) (by rfl) (fun w' hS => by go_simp) hS ?_
          simp only [Act.put, List.setIfInBounds_toArray, List.set_cons_zero, List.set_cons_succ]
          refine takeY (i := 11) (some 22) (v := .agg (heC (heV hd A2 c2))) rfl rfl (by kernel_rfl) (by kernel_rfl) (by kernel_rfl) (fun _ _ _ h => h) (by rfl) (fun w' hS => by go_simp) hS ?_
          simp only [Act.put, List.setIfInBounds_toArray, List.set_cons_zero, List.set_cons_succ]
          refine takeY (i := 12) (some 23) (v := .int .i64 0) rfl rfl (by kernel_rfl) (by kernel_rfl) (by kernel_rfl) (fun _ _ _ h => h) (by rfl) (fun w' hS => by go_simp) hS ?_
          simp only [Act.put, List.setIfInBounds_toArray, List.set_cons_zero, List.set_cons_succ]
          refine takeSt (i := 14) 34 (.tmp 7) (.tmp 22) M1 0 (.agg (heC (heV hd A2 c2))) (heC (heV hd A2 c2)) (heC (heV hd A2 c2)) rfl rfl (by kernel_rfl) (by rfl) rfl rfl rfl rfl info_heP (heC_one _) K8.out (Nat.le_of_ble_eq_true rfl) (by kernel_rfl) ?_
          intro W5 q1
          refine ⟨⟨KP.out.far q1 (by omega), KQ.out.far q1 (by omega), HB.out.trans (q1.2.1 _ (by omega)), HBQ.out.trans (q1.2.1 _ (by omega))⟩, ?_⟩
          simp only [Act.put, List.setIfInBounds_toArray, List.set_cons_zero, List.set_cons_succ]
          have HXHn := Lib.hid (HXH.out.farT K8.out neL1 neL2 q1)
          clear HXH
          have HXH := HXHn
          clear HXHn
          have K8n : Hid (Blk 34 W5 M1 (heC (heV hd A2 c2))) := Lib.hid q1.1
          clear K8
          have K8 := K8n
          clear K8n
          have KPn := Lib.hid (KP.out.far q1 (by omega))
          clear KP
          have KP := KPn
          clear KPn
          have KQn := Lib.hid (KQ.out.far q1 (by omega))
          clear KQ
          have KQ := KQn
          clear KQn
          have HBn := Lib.hid (HB.out.trans (q1.2.1 _ (by omega)))
          clear HB
          have HB := HBn
          clear HBn
          have HBQn := Lib.hid (HBQ.out.trans (q1.2.1 _ (by omega)))
          clear HBQ
          have HBQ := HBQn
          clear HBQn
          clear q1 hS
          have hS := (And.intro KP.out (And.intro KQ.out (And.intro HB.out HBQ.out)))
          refine takeY (i := 15) (some 8) (v := .int .i64 0) rfl rfl (by kernel_rfl) (by kernel_rfl) (by kernel_rfl) (fun _ _ _ h => h) (by rfl) (fun w' hS => by go_simp) hS ?_
          simp only [Act.put, List.setIfInBounds_toArray, List.set_cons_zero, List.set_cons_succ]
          clear hS
          refine wpAnyH_done (by kernel_rfl) ?_ _
          go_wp2_with fail
          go_meet
          case rel => exact ⟨M1, A2, c2, L2, rfl, rfl, K8, Lib.hid (own_rd HXH.out), HSH, KP, KQ, HB, HBQ⟩
    · skip
      intro W2 k1 b1 s1
      refine ⟨⟨hS.1.below b1 hS.1.lt, hS.2.1.below b1 hS.2.1.lt, hS.2.2.1.trans (b1.mono hS.2.2.1.size), hS.2.2.2.trans (b1.mono hS.2.2.2.size)⟩, ?_⟩
      simp only [Act.put, List.setIfInBounds_toArray, List.set_cons_zero, List.set_cons_succ]
      have K8 := Lib.hid k1
      clear k1
      have lt_P_M0 : P < M0 := by rw [← HM0.out]; exact KP.out.lt
      have lt_Q_M0 : Q < M0 := by rw [← HM0.out]; exact KQ.out.lt
      have le_HB_M0 : w0.heap.size ≤ M0 := by rw [← HM0.out]; exact HB.out.size
      have le_HBQ_M0 : w.heap.size ≤ M0 := by rw [← HM0.out]; exact HBQ.out.size
      have KPn := Lib.hid (KP.out.below b1 KP.out.lt)
      clear KP
      have KP := KPn
      clear KPn
      have KQn := Lib.hid (KQ.out.below b1 KQ.out.lt)
      clear KQ
      have KQ := KQn
      clear KQn
      have HBn := Lib.hid (HB.out.trans (b1.mono HB.out.size))
      clear HB
      have HB := HBn
      clear HBn
      have HBQn := Lib.hid (HBQ.out.trans (b1.mono HBQ.out.size))
      clear HBQ
      have HBQ := HBQn
      clear HBQn
      clear b1 HM0 hS
      have hS := (And.intro KP.out (And.intro KQ.out (And.intro HB.out HBQ.out)))
      refine takeCE (i := 4) (some 16) 11 #[.agg (loC l)] (R := fun v w' => LocO W2 l L v w') rfl rfl (by kernel_rfl) (by rfl) (by go_simp) (local_o l L W2 (HRL.out.below HB.out) HML.out) (fun v w' h => by obtain ⟨A1, c1, L1, rfl, hr1, hs1, hb1⟩ := h; exact ⟨hS.1.below hb1 hS.1.lt, hS.2.1.below hb1 hS.2.1.lt, hS.2.2.1.trans (hb1.mono hS.2.2.1.size), hS.2.2.2.trans (hb1.mono hS.2.2.2.size)⟩) ?_
      · skip
        intro v W3 h hS2
        obtain ⟨A1, c1, L1, rfl, hr1, hs1, hb1⟩ := h
        simp only [Act.put, List.setIfInBounds_toArray, List.set_cons_zero, List.set_cons_succ]
        have K8n := Lib.hid (K8.out.below hb1 K8.out.lt)
        clear K8
        have K8 := K8n
        clear K8n
        clear KP
        clear KQ
        clear HB
        clear HBQ
        clear hS
        have hS := hS2
        clear hS2
        have KP := Lib.hid hS.1
        have KQ := Lib.hid hS.2.1
        have HB := Lib.hid hS.2.2.1
        have HBQ := Lib.hid hS.2.2.2
        have HXL := Lib.hid hr1
        have HSL := Lib.hid hs1
        clear hr1 hs1 hb1
        refine takeCE (i := 9) (some 21) 16 #[.agg (loC ⟨l.s, l.nu, l.lv, A1, l.m, c1⟩), .agg (ajC a), .int .i64 10] (R := fun v w' => ∃ A c L2, v = .tuple #[.agg (heC (heV hd A c)), .int .i64 0] ∧ OwnS w' W3.heap.size (.slice A hd.m c) hd.m L2 ∧ (∀ j, j < hd.m → sameS (L2 j) (L j)) ∧ Below W3.heap.size W3 w') rfl rfl (by kernel_rfl) (by rfl) (by go_simp) ((HTU.out A1 c1 L1 W3 (own_rd HXL.out) HSL.out).mono (fun e w' ⟨A, c, L2, h1, h2, h3, h4⟩ => ⟨_, h1, A, c, L2, rfl, h2, h3, h4⟩)) (fun v w' h => by obtain ⟨A2, c2, L2, rfl, hr1, hs1, hb1⟩ := h; exact ⟨hS.1.below hb1 hS.1.lt, hS.2.1.below hb1 hS.2.1.lt, hS.2.2.1.trans (hb1.mono hS.2.2.1.size), hS.2.2.2.trans (hb1.mono hS.2.2.2.size)⟩) ?_
        · skip
          intro v W4 h hS2
          obtain ⟨A2, c2, L2, rfl, hr1, hs1, hb1⟩ := h
          simp only [Act.put, List.setIfInBounds_toArray, List.set_cons_zero, List.set_cons_succ]
          have HXLn := Lib.hid (HXL.out.below hb1)
          clear HXL
          have HXL := HXLn
          clear HXLn
          have K8n := Lib.hid (K8.out.below hb1 K8.out.lt)
          clear K8
          have K8 := K8n
          clear K8n
          clear KP
          clear KQ
          clear HB
          clear HBQ
          clear hS
          have hS := hS2
          clear hS2
          have KP := Lib.hid hS.1
          have KQ := Lib.hid hS.2.1
          have HB := Lib.hid hS.2.2.1
          have HBQ := Lib.hid hS.2.2.2
          have HXH := Lib.hid hr1
          have HSH := Lib.hid hs1
          clear hr1 hs1 hb1
          clear HXL HSL
          refine takeY (i := 10) (some 11) (v := .tuple #[.agg (heC (heV hd A2 c2)), .int .i64 0]) rfl rfl (by kernel_rfl) (by kernel_rfl) (by kernel_rfl) (fun _ _ _ h => h) (by rfl) (fun w' hS => by go_simp) hS ?_
          simp only [Act.put, List.setIfInBounds_toArray, List.set_cons_zero, List.set_cons_succ]
          refine takeY (i := 11) (some 22) (v := .agg (heC (heV hd A2 c2))) rfl rfl (by kernel_rfl) (by kernel_rfl) (by kernel_rfl) (fun _ _ _ h => h) (by rfl) (fun w' hS => by go_simp) hS ?_
          simp only [Act.put, List.setIfInBounds_toArray, List.set_cons_zero, List.set_cons_succ]
          refine takeY (i := 12) (some 23) (v := .int .i64 0) rfl rfl (by kernel_rfl) (by kernel_rfl) (by kernel_rfl) (fun _ _ _ h => h) (by rfl) (fun w' hS => by go_simp) hS ?_
          simp only [Act.put, List.setIfInBounds_toArray, List.set_cons_zero, List.set_cons_succ]
          refine takeSt (i := 14) 34 (.tmp 7) (.tmp 22) M0 0 (.agg (heC (heV hd A2 c2))) (heC (heV hd A2 c2)) (heC (heV hd A2 c2)) rfl rfl (by kernel_rfl) (by rfl) rfl rfl rfl rfl info_heP (heC_one _) K8.out (Nat.le_of_ble_eq_true rfl) (by kernel_rfl) ?_
          intro W5 q1
          refine ⟨⟨KP.out.far q1 (by omega), KQ.out.far q1 (by omega), HB.out.trans (q1.2.1 _ (by omega)), HBQ.out.trans (q1.2.1 _ (by omega))⟩, ?_⟩
          simp only [Act.put, List.setIfInBounds_toArray, List.set_cons_zero, List.set_cons_succ]
          have HXHn := Lib.hid (HXH.out.farT K8.out neL1 neL2 q1)
          clear HXH
          have HXH := HXHn
          clear HXHn
          have K8n : Hid (Blk 34 W5 M0 (heC (heV hd A2 c2))) := Lib.hid q1.1
          clear K8
          have K8 := K8n
          clear K8n
          have KPn := Lib.hid (KP.out.far q1 (by omega))
          clear KP
          have KP := KPn
          clear KPn
          have KQn := Lib.hid (KQ.out.far q1 (by omega))
          clear KQ
          have KQ := KQn
          clear KQn
          have HBn := Lib.hid (HB.out.trans (q1.2.1 _ (by omega)))
          clear HB
          have HB := HBn
          clear HBn
          have HBQn := Lib.hid (HBQ.out.trans (q1.2.1 _ (by omega)))
          clear HBQ
          have HBQ := HBQn
          clear HBQn
          clear q1 hS
          have hS := (And.intro KP.out (And.intro KQ.out (And.intro HB.out HBQ.out)))
          refine takeY (i := 15) (some 8) (v := .int .i64 0) rfl rfl (by kernel_rfl) (by kernel_rfl) (by kernel_rfl) (fun _ _ _ h => h) (by rfl) (fun w' hS => by go_simp) hS ?_
          simp only [Act.put, List.setIfInBounds_toArray, List.set_cons_zero, List.set_cons_succ]
          clear hS
          refine wpAnyH_done (by kernel_rfl) ?_ _
          go_wp2_with fail
          go_meet
          case rel => exact ⟨M0, A2, c2, L2, rfl, rfl, K8, Lib.hid (own_rd HXH.out), HSH, KP, KQ, HB, HBQ⟩
  case rest =>
  clear KP
  clear KQ
  clear HB HBQ
  obtain ⟨N8, A2, c2, L2, rfl, rfl, K8, HXH, HSH, KP, KQ, HB, HBQ⟩ := hcut
  obtain ⟨wd, rfl⟩ : ∃ wd, wd = wc := ⟨_, rfl⟩
  clear HTU
  have HBH := Lib.hid (Below.refl wd.heap.size wd)
  go_upto_region 4 with (fail)
  go_cut [9, 10] (fun s9 s10 wc => ∃ N, s9 = .pointer (some ⟨N, 0, none⟩) ∧ s10 = .int .i64 R.2 ∧ Hid (Blk 36 wc N (ajC R.1)) ∧ Hid (Blk 56 wc P (sdC l a)) ∧ Hid (Blk 56 wc Q (sdC m b)) ∧ Hid (Blk 34 wc N8 (heC (heV hd A2 c2))) ∧ Hid (Below w0.heap.size w0 wc) ∧ Hid (Below w.heap.size w wc) ∧ Hid (Below wd.heap.size wd wc))
  case first =>
    refine wp_region_held_drew (S := fun w' => Blk 56 w' P (sdC l a) ∧ Blk 56 w' Q (sdC m b) ∧ Blk 34 w' N8 (heC (heV hd A2 c2)) ∧ Below w0.heap.size w0 w' ∧ Below w.heap.size w w' ∧ Below wd.heap.size wd w') (by kernel_rfl) ⟨KP.out, KQ.out, K8.out, HB.out.drew, HBQ.out.drew, HBH.out.drew⟩ (fun hS => ?_)
    generalize hW1 : wd.drew = W1 at hS ⊢
    clear hW1
    clear KP
    clear KQ
    clear K8
    clear HB
    clear HBQ
    clear HBH
    have KP := Lib.hid hS.1
    have KQ := Lib.hid hS.2.1
    have K8 := Lib.hid hS.2.2.1
    have HB := Lib.hid hS.2.2.2.1
    have HBQ := Lib.hid hS.2.2.2.2.1
    have HBH := Lib.hid hS.2.2.2.2.2
    refine takeY (i := 0) (some 27) (v := .pointer (some ⟨Q, 0, none⟩)) rfl rfl (by kernel_rfl) (by kernel_rfl) (by kernel_rfl) (fun _ _ _ h => h) (by rfl) (fun w' hS => by go_simp) hS ?_
    simp only [Act.put, List.setIfInBounds_toArray, List.set_cons_zero, List.set_cons_succ]
    refine takeY (i := 1) (some 28) (v := .pointer (some ⟨Q, 0, none⟩)) rfl rfl (by kernel_rfl) (by kernel_rfl) (by kernel_rfl) (fun _ _ _ h => h) (by rfl) (fun w' hS => by go_simp) hS ?_
    simp only [Act.put, List.setIfInBounds_toArray, List.set_cons_zero, List.set_cons_succ]
    refine takeY (i := 2) (some 29) (v := .pointer (some ⟨Q, 0, none⟩)) rfl rfl (by kernel_rfl) (by kernel_rfl) (by kernel_rfl) (fun _ _ _ h => h) (by rfl) (fun w' hS => by go_simp) hS ?_
    simp only [Act.put, List.setIfInBounds_toArray, List.set_cons_zero, List.set_cons_succ]
    refine takeL (i := 3) (some 30) 26 (.tmp 29) Q 0 (loC m) _ rfl rfl (by kernel_rfl) (by kernel_rfl) (by kernel_rfl) (fun _ _ _ h => h) (by rfl) rfl rfl (fun w' hS => hS.2.1.sdl) Try.underlying26 rfl info_loR hS ?_
    simp only [Act.put, List.setIfInBounds_toArray, List.set_cons_zero, List.set_cons_succ]
    refine takeY (i := 5) (some 32) (v := .pointer (some ⟨Q, 0, none⟩)) rfl rfl (by kernel_rfl) (by kernel_rfl) (by kernel_rfl) (fun _ _ _ h => h) (by rfl) (fun w' hS => by go_simp) hS ?_
    simp only [Act.put, List.setIfInBounds_toArray, List.set_cons_zero, List.set_cons_succ]
    refine takeY (i := 6) (some 33) (v := .pointer (some ⟨Q, 0, none⟩)) rfl rfl (by kernel_rfl) (by kernel_rfl) (by kernel_rfl) (fun _ _ _ h => h) (by rfl) (fun w' hS => by go_simp) hS ?_
    simp only [Act.put, List.setIfInBounds_toArray, List.set_cons_zero, List.set_cons_succ]
    refine takeY (i := 7) (some 34) (v := .pointer (some ⟨Q, 9, none⟩)) rfl rfl (by kernel_rfl) (by kernel_rfl) (by kernel_rfl) (fun _ _ _ h => h) (by rfl) (fun w' hS => by go_simp) hS ?_
    simp only [Act.put, List.setIfInBounds_toArray, List.set_cons_zero, List.set_cons_succ]
    refine takeL (i := 8) (some 35) 36 (.tmp 34) Q 9 (ajC b) _ rfl rfl (by kernel_rfl) (by kernel_rfl) (by kernel_rfl) (fun _ _ _ h => h) (by rfl) rfl rfl (fun w' hS => hS.2.1.sda) Try.underlying36 rfl info_ajP hS ?_
    simp only [Act.put, List.setIfInBounds_toArray, List.set_cons_zero, List.set_cons_succ]
    refine takeL (i := 9) (some 36) 34 (.tmp 7) N8 0 (heC (heV hd A2 c2)) _ rfl rfl (by kernel_rfl) (by kernel_rfl) (by kernel_rfl) (fun _ _ _ h => h) (by rfl) rfl rfl (fun w' hS => hS.2.2.1.all) Try.underlying34 rfl info_heP hS ?_
    simp only [Act.put, List.setIfInBounds_toArray, List.set_cons_zero, List.set_cons_succ]
    refine takeY (i := 10) (some 37) (v := .int .i64 now) rfl rfl (by kernel_rfl) (by kernel_rfl) (by kernel_rfl) (fun _ _ _ h => h) (by rfl) (fun w' hS => by go_simp) hS ?_
    simp only [Act.put, List.setIfInBounds_toArray, List.set_cons_zero, List.set_cons_succ]
    obtain ⟨M0, hM0⟩ : ∃ N, W1.heap.size = N := ⟨_, rfl⟩
    have HM0 := Lib.hid hM0
    clear hM0
    refine wpAnyH_ready (show Region.ready _ _ _ = [4, 15] from by kernel_rfl) (by simp) (consCE (i := 4) (some 31) 11 #[.agg (loC m)] (R := fun v w' => LocO W1 m M v w') rfl rfl (by rfl) (by go_simp) (local_o m M W1 (HRM.out.below HB.out) HMM.out) (fun v w' h => by obtain ⟨A1, c1, L1, rfl, hr1, hs1, hb1⟩ := h; exact ⟨hS.1.below hb1 hS.1.lt, hS.2.1.below hb1 hS.2.1.lt, hS.2.2.1.below hb1 hS.2.2.1.lt, hS.2.2.2.1.trans (hb1.mono hS.2.2.2.1.size), hS.2.2.2.2.1.trans (hb1.mono hS.2.2.2.2.1.size), hS.2.2.2.2.2.trans (hb1.mono hS.2.2.2.2.2.size)⟩) ?_ (consMk (i := 15) (some 9) 36 (ajC aj0) rfl rfl (by rfl) rfl zero_ajP M0 HM0.out ?_ AllReadyH.nil))
    · skip
      clear HM0
      intro v W2 h hS2
      obtain ⟨A1, c1, L1, rfl, hr1, hs1, hb1⟩ := h
      simp only [Act.put, List.setIfInBounds_toArray, List.set_cons_zero, List.set_cons_succ]
      clear KP
      clear KQ
      clear K8
      clear HB
      clear HBQ
      clear HBH
      clear hS
      have hS := hS2
      clear hS2
      have KP := Lib.hid hS.1
      have KQ := Lib.hid hS.2.1
      have K8 := Lib.hid hS.2.2.1
      have HB := Lib.hid hS.2.2.2.1
      have HBQ := Lib.hid hS.2.2.2.2.1
      have HBH := Lib.hid hS.2.2.2.2.2
      have HXL := Lib.hid hr1
      have HSL := Lib.hid hs1
      clear hr1 hs1 hb1
      obtain ⟨M1, hM1⟩ : ∃ N, W2.heap.size = N := ⟨_, rfl⟩
      have HM1 := Lib.hid hM1
      clear hM1
      refine wpAnyH_ready (show Region.ready _ _ _ = [11, 15] from by kernel_rfl) (by simp) (consC (i := 11) (some 38) 13 #[.agg (loC ⟨m.s, m.nu, m.lv, A1, m.m, c1⟩), .agg (ajC b), .agg (heC (heV hd A2 c2)), .int .i64 now] (.tuple #[.agg (ajC R.1), .int .i64 R.2]) (R := fun w' => Below W2.heap.size W2 w') rfl rfl (by rfl) (by go_simp) (HST.out L1 L2 A1 A2 c1 c2 W2 (own_rd HXL.out) (HXH.out.below HBH.out) HSL.out HSH.out) (fun w' hb => ⟨hS.1.below hb hS.1.lt, hS.2.1.below hb hS.2.1.lt, hS.2.2.1.below hb hS.2.2.1.lt, hS.2.2.2.1.trans (hb.mono hS.2.2.2.1.size), hS.2.2.2.2.1.trans (hb.mono hS.2.2.2.2.1.size), hS.2.2.2.2.2.trans (hb.mono hS.2.2.2.2.2.size)⟩) ?_ (consMk (i := 15) (some 9) 36 (ajC aj0) rfl rfl (by rfl) rfl zero_ajP M1 HM1.out ?_ AllReadyH.nil))
      · skip
        clear HM1
        intro W3 hb1 hS2
        simp only [Act.put, List.setIfInBounds_toArray, List.set_cons_zero, List.set_cons_succ]
        have HXLn := Lib.hid (HXL.out.below hb1)
        clear HXL
        have HXL := HXLn
        clear HXLn
        clear KP
        clear KQ
        clear K8
        clear HB
        clear HBQ
        clear HBH
        clear hS
        have hS := hS2
        clear hS2
        have KP := Lib.hid hS.1
        have KQ := Lib.hid hS.2.1
        have K8 := Lib.hid hS.2.2.1
        have HB := Lib.hid hS.2.2.2.1
        have HBQ := Lib.hid hS.2.2.2.2.1
        have HBH := Lib.hid hS.2.2.2.2.2
        clear HXL HSL
        clear hb1
        refine takeY (i := 12) (some 26) (v := .tuple #[.agg (ajC R.1), .int .i64 R.2]) rfl rfl (by kernel_rfl) (by kernel_rfl) (by kernel_rfl) (fun _ _ _ h => h) (by rfl) (fun w' hS => by go_simp) hS ?_
        simp only [Act.put, List.setIfInBounds_toArray, List.set_cons_zero, List.set_cons_succ]
        refine takeY (i := 13) (some 39) (v := .agg (ajC R.1)) rfl rfl (by kernel_rfl) (by kernel_rfl) (by kernel_rfl) (fun _ _ _ h => h) (by rfl) (fun w' hS => by go_simp) hS ?_
        simp only [Act.put, List.setIfInBounds_toArray, List.set_cons_zero, List.set_cons_succ]
        refine takeY (i := 14) (some 40) (v := .int .i64 R.2) rfl rfl (by kernel_rfl) (by kernel_rfl) (by kernel_rfl) (fun _ _ _ h => h) (by rfl) (fun w' hS => by go_simp) hS ?_
        simp only [Act.put, List.setIfInBounds_toArray, List.set_cons_zero, List.set_cons_succ]
        obtain ⟨M2, hM2⟩ : ∃ N, W3.heap.size = N := ⟨_, rfl⟩
        have HM2 := Lib.hid hM2
        clear hM2
        refine takeMk (i := 15) (some 9) 36 (ajC aj0) rfl rfl (by kernel_rfl) (by rfl) rfl zero_ajP M2 HM2.out ?_
        · skip
          intro W4 k1 b1 s1
          refine ⟨⟨hS.1.below b1 hS.1.lt, hS.2.1.below b1 hS.2.1.lt, hS.2.2.1.below b1 hS.2.2.1.lt, hS.2.2.2.1.trans (b1.mono hS.2.2.2.1.size), hS.2.2.2.2.1.trans (b1.mono hS.2.2.2.2.1.size), hS.2.2.2.2.2.trans (b1.mono hS.2.2.2.2.2.size)⟩, ?_⟩
          simp only [Act.put, List.setIfInBounds_toArray, List.set_cons_zero, List.set_cons_succ]
          have K9 := Lib.hid k1
          clear k1
          have lt_P_M2 : P < M2 := by rw [← HM2.out]; exact KP.out.lt
          have lt_Q_M2 : Q < M2 := by rw [← HM2.out]; exact KQ.out.lt
          have lt_N8_M2 : N8 < M2 := by rw [← HM2.out]; exact K8.out.lt
          have le_HB_M2 : w0.heap.size ≤ M2 := by rw [← HM2.out]; exact HB.out.size
          have le_HBQ_M2 : w.heap.size ≤ M2 := by rw [← HM2.out]; exact HBQ.out.size
          have le_HBH_M2 : wd.heap.size ≤ M2 := by rw [← HM2.out]; exact HBH.out.size
          have KPn := Lib.hid (KP.out.below b1 KP.out.lt)
          clear KP
          have KP := KPn
          clear KPn
          have KQn := Lib.hid (KQ.out.below b1 KQ.out.lt)
          clear KQ
          have KQ := KQn
          clear KQn
          have K8n := Lib.hid (K8.out.below b1 K8.out.lt)
          clear K8
          have K8 := K8n
          clear K8n
          have HBn := Lib.hid (HB.out.trans (b1.mono HB.out.size))
          clear HB
          have HB := HBn
          clear HBn
          have HBQn := Lib.hid (HBQ.out.trans (b1.mono HBQ.out.size))
          clear HBQ
          have HBQ := HBQn
          clear HBQn
          have HBHn := Lib.hid (HBH.out.trans (b1.mono HBH.out.size))
          clear HBH
          have HBH := HBHn
          clear HBHn
          clear b1 HM2 hS
          have hS := (And.intro KP.out (And.intro KQ.out (And.intro K8.out (And.intro HB.out (And.intro HBQ.out HBH.out)))))
          refine takeSt (i := 16) 36 (.tmp 9) (.tmp 39) M2 0 (.agg (ajC R.1)) (ajC R.1) (ajC R.1) rfl rfl (by kernel_rfl) (by rfl) rfl rfl rfl rfl info_ajP (ajC_one _) K9.out (Nat.le_of_ble_eq_true rfl) (by kernel_rfl) ?_
          intro W5 q1
          refine ⟨⟨KP.out.far q1 (by omega), KQ.out.far q1 (by omega), K8.out.far q1 (by omega), HB.out.trans (q1.2.1 _ (by omega)), HBQ.out.trans (q1.2.1 _ (by omega)), HBH.out.trans (q1.2.1 _ (by omega))⟩, ?_⟩
          simp only [Act.put, List.setIfInBounds_toArray, List.set_cons_zero, List.set_cons_succ]
          have K9n : Hid (Blk 36 W5 M2 (ajC R.1)) := Lib.hid q1.1
          clear K9
          have K9 := K9n
          clear K9n
          have KPn := Lib.hid (KP.out.far q1 (by omega))
          clear KP
          have KP := KPn
          clear KPn
          have KQn := Lib.hid (KQ.out.far q1 (by omega))
          clear KQ
          have KQ := KQn
          clear KQn
          have K8n := Lib.hid (K8.out.far q1 (by omega))
          clear K8
          have K8 := K8n
          clear K8n
          have HBn := Lib.hid (HB.out.trans (q1.2.1 _ (by omega)))
          clear HB
          have HB := HBn
          clear HBn
          have HBQn := Lib.hid (HBQ.out.trans (q1.2.1 _ (by omega)))
          clear HBQ
          have HBQ := HBQn
          clear HBQn
          have HBHn := Lib.hid (HBH.out.trans (q1.2.1 _ (by omega)))
          clear HBH
          have HBH := HBHn
          clear HBHn
          clear q1 hS
          have hS := (And.intro KP.out (And.intro KQ.out (And.intro K8.out (And.intro HB.out (And.intro HBQ.out HBH.out)))))
          refine takeY (i := 17) (some 10) (v := .int .i64 R.2) rfl rfl (by kernel_rfl) (by kernel_rfl) (by kernel_rfl) (fun _ _ _ h => h) (by rfl) (fun w' hS => by go_simp) hS ?_
          simp only [Act.put, List.setIfInBounds_toArray, List.set_cons_zero, List.set_cons_succ]
          clear hS
          refine wpAnyH_done (by kernel_rfl) ?_ _
          go_wp2_with fail
          go_meet
          case rel => exact ⟨M2, rfl, rfl, K9, KP, KQ, K8, HB, HBQ, HBH⟩
      · skip
        intro W3 k1 b1 s1
        refine ⟨⟨hS.1.below b1 hS.1.lt, hS.2.1.below b1 hS.2.1.lt, hS.2.2.1.below b1 hS.2.2.1.lt, hS.2.2.2.1.trans (b1.mono hS.2.2.2.1.size), hS.2.2.2.2.1.trans (b1.mono hS.2.2.2.2.1.size), hS.2.2.2.2.2.trans (b1.mono hS.2.2.2.2.2.size)⟩, ?_⟩
        simp only [Act.put, List.setIfInBounds_toArray, List.set_cons_zero, List.set_cons_succ]
        have K9 := Lib.hid k1
        clear k1
        have lt_P_M1 : P < M1 := by rw [← HM1.out]; exact KP.out.lt
        have lt_Q_M1 : Q < M1 := by rw [← HM1.out]; exact KQ.out.lt
        have lt_N8_M1 : N8 < M1 := by rw [← HM1.out]; exact K8.out.lt
        have le_HB_M1 : w0.heap.size ≤ M1 := by rw [← HM1.out]; exact HB.out.size
        have le_HBQ_M1 : w.heap.size ≤ M1 := by rw [← HM1.out]; exact HBQ.out.size
        have le_HBH_M1 : wd.heap.size ≤ M1 := by rw [← HM1.out]; exact HBH.out.size
        have HXLn := Lib.hid (HXL.out.below b1)
        clear HXL
        have HXL := HXLn
        clear HXLn
        have KPn := Lib.hid (KP.out.below b1 KP.out.lt)
        clear KP
        have KP := KPn
        clear KPn
        have KQn := Lib.hid (KQ.out.below b1 KQ.out.lt)
        clear KQ
        have KQ := KQn
        clear KQn
        have K8n := Lib.hid (K8.out.below b1 K8.out.lt)
        clear K8
        have K8 := K8n
        clear K8n
        have HBn := Lib.hid (HB.out.trans (b1.mono HB.out.size))
        clear HB
        have HB := HBn
        clear HBn
        have HBQn := Lib.hid (HBQ.out.trans (b1.mono HBQ.out.size))
        clear HBQ
        have HBQ := HBQn
        clear HBQn
        have HBHn := Lib.hid (HBH.out.trans (b1.mono HBH.out.size))
        clear HBH
        have HBH := HBHn
        clear HBHn
        clear b1 HM1 hS
        have hS := (And.intro KP.out (And.intro KQ.out (And.intro K8.out (And.intro HB.out (And.intro HBQ.out HBH.out)))))
        refine takeC (i := 11) (some 38) 13 #[.agg (loC ⟨m.s, m.nu, m.lv, A1, m.m, c1⟩), .agg (ajC b), .agg (heC (heV hd A2 c2)), .int .i64 now] (.tuple #[.agg (ajC R.1), .int .i64 R.2]) (R := fun w' => Below W3.heap.size W3 w') rfl rfl (by kernel_rfl) (by rfl) (by go_simp) (HST.out L1 L2 A1 A2 c1 c2 W3 (own_rd HXL.out) (HXH.out.below HBH.out) HSL.out HSH.out) (fun w' hb => ⟨hS.1.below hb hS.1.lt, hS.2.1.below hb hS.2.1.lt, hS.2.2.1.below hb hS.2.2.1.lt, hS.2.2.2.1.trans (hb.mono hS.2.2.2.1.size), hS.2.2.2.2.1.trans (hb.mono hS.2.2.2.2.1.size), hS.2.2.2.2.2.trans (hb.mono hS.2.2.2.2.2.size)⟩) ?_
        · skip
          intro W4 hb1 hS2
          simp only [Act.put, List.setIfInBounds_toArray, List.set_cons_zero, List.set_cons_succ]
          have HXLn := Lib.hid (HXL.out.below hb1)
          clear HXL
          have HXL := HXLn
          clear HXLn
          have K9n := Lib.hid (K9.out.below hb1 K9.out.lt)
          clear K9
          have K9 := K9n
          clear K9n
          clear KP
          clear KQ
          clear K8
          clear HB
          clear HBQ
          clear HBH
          clear hS
          have hS := hS2
          clear hS2
          have KP := Lib.hid hS.1
          have KQ := Lib.hid hS.2.1
          have K8 := Lib.hid hS.2.2.1
          have HB := Lib.hid hS.2.2.2.1
          have HBQ := Lib.hid hS.2.2.2.2.1
          have HBH := Lib.hid hS.2.2.2.2.2
          clear HXL HSL
          clear hb1
          refine takeY (i := 12) (some 26) (v := .tuple #[.agg (ajC R.1), .int .i64 R.2]) rfl rfl (by kernel_rfl) (by kernel_rfl) (by kernel_rfl) (fun _ _ _ h => h) (by rfl) (fun w' hS => by go_simp) hS ?_
          simp only [Act.put, List.setIfInBounds_toArray, List.set_cons_zero, List.set_cons_succ]
          refine takeY (i := 13) (some 39) (v := .agg (ajC R.1)) rfl rfl (by kernel_rfl) (by kernel_rfl) (by kernel_rfl) (fun _ _ _ h => h) (by rfl) (fun w' hS => by go_simp) hS ?_
          simp only [Act.put, List.setIfInBounds_toArray, List.set_cons_zero, List.set_cons_succ]
          refine takeY (i := 14) (some 40) (v := .int .i64 R.2) rfl rfl (by kernel_rfl) (by kernel_rfl) (by kernel_rfl) (fun _ _ _ h => h) (by rfl) (fun w' hS => by go_simp) hS ?_
          simp only [Act.put, List.setIfInBounds_toArray, List.set_cons_zero, List.set_cons_succ]
          refine takeSt (i := 16) 36 (.tmp 9) (.tmp 39) M1 0 (.agg (ajC R.1)) (ajC R.1) (ajC R.1) rfl rfl (by kernel_rfl) (by rfl) rfl rfl rfl rfl info_ajP (ajC_one _) K9.out (Nat.le_of_ble_eq_true rfl) (by kernel_rfl) ?_
          intro W5 q1
          refine ⟨⟨KP.out.far q1 (by omega), KQ.out.far q1 (by omega), K8.out.far q1 (by omega), HB.out.trans (q1.2.1 _ (by omega)), HBQ.out.trans (q1.2.1 _ (by omega)), HBH.out.trans (q1.2.1 _ (by omega))⟩, ?_⟩
          simp only [Act.put, List.setIfInBounds_toArray, List.set_cons_zero, List.set_cons_succ]
          have K9n : Hid (Blk 36 W5 M1 (ajC R.1)) := Lib.hid q1.1
          clear K9
          have K9 := K9n
          clear K9n
          have KPn := Lib.hid (KP.out.far q1 (by omega))
          clear KP
          have KP := KPn
          clear KPn
          have KQn := Lib.hid (KQ.out.far q1 (by omega))
          clear KQ
          have KQ := KQn
          clear KQn
          have K8n := Lib.hid (K8.out.far q1 (by omega))
          clear K8
          have K8 := K8n
          clear K8n
          have HBn := Lib.hid (HB.out.trans (q1.2.1 _ (by omega)))
          clear HB
          have HB := HBn
          clear HBn
          have HBQn := Lib.hid (HBQ.out.trans (q1.2.1 _ (by omega)))
          clear HBQ
          have HBQ := HBQn
          clear HBQn
          have HBHn := Lib.hid (HBH.out.trans (q1.2.1 _ (by omega)))
          clear HBH
          have HBH := HBHn
          clear HBHn
          clear q1 hS
          have hS := (And.intro KP.out (And.intro KQ.out (And.intro K8.out (And.intro HB.out (And.intro HBQ.out HBH.out)))))
          refine takeY (i := 17) (some 10) (v := .int .i64 R.2) rfl rfl (by kernel_rfl) (by kernel_rfl) (by kernel_rfl) (fun _ _ _ h => h) (by rfl) (fun w' hS => by go_simp) hS ?_
          simp only [Act.put, List.setIfInBounds_toArray, List.set_cons_zero, List.set_cons_succ]
          clear hS
          refine wpAnyH_done (by kernel_rfl) ?_ _
          go_wp2_with fail
          go_meet
          case rel => exact ⟨M1, rfl, rfl, K9, KP, KQ, K8, HB, HBQ, HBH⟩
    · skip
      intro W2 k1 b1 s1
      refine ⟨⟨hS.1.below b1 hS.1.lt, hS.2.1.below b1 hS.2.1.lt, hS.2.2.1.below b1 hS.2.2.1.lt, hS.2.2.2.1.trans (b1.mono hS.2.2.2.1.size), hS.2.2.2.2.1.trans (b1.mono hS.2.2.2.2.1.size), hS.2.2.2.2.2.trans (b1.mono hS.2.2.2.2.2.size)⟩, ?_⟩
      simp only [Act.put, List.setIfInBounds_toArray, List.set_cons_zero, List.set_cons_succ]
      have K9 := Lib.hid k1
      clear k1
      have lt_P_M0 : P < M0 := by rw [← HM0.out]; exact KP.out.lt
      have lt_Q_M0 : Q < M0 := by rw [← HM0.out]; exact KQ.out.lt
      have lt_N8_M0 : N8 < M0 := by rw [← HM0.out]; exact K8.out.lt
      have le_HB_M0 : w0.heap.size ≤ M0 := by rw [← HM0.out]; exact HB.out.size
      have le_HBQ_M0 : w.heap.size ≤ M0 := by rw [← HM0.out]; exact HBQ.out.size
      have le_HBH_M0 : wd.heap.size ≤ M0 := by rw [← HM0.out]; exact HBH.out.size
      have KPn := Lib.hid (KP.out.below b1 KP.out.lt)
      clear KP
      have KP := KPn
      clear KPn
      have KQn := Lib.hid (KQ.out.below b1 KQ.out.lt)
      clear KQ
      have KQ := KQn
      clear KQn
      have K8n := Lib.hid (K8.out.below b1 K8.out.lt)
      clear K8
      have K8 := K8n
      clear K8n
      have HBn := Lib.hid (HB.out.trans (b1.mono HB.out.size))
      clear HB
      have HB := HBn
      clear HBn
      have HBQn := Lib.hid (HBQ.out.trans (b1.mono HBQ.out.size))
      clear HBQ
      have HBQ := HBQn
      clear HBQn
      have HBHn := Lib.hid (HBH.out.trans (b1.mono HBH.out.size))
      clear HBH
      have HBH := HBHn
      clear HBHn
      clear b1 HM0 hS
      have hS := (And.intro KP.out (And.intro KQ.out (And.intro K8.out (And.intro HB.out (And.intro HBQ.out HBH.out)))))
      refine takeCE (i := 4) (some 31) 11 #[.agg (loC m)] (R := fun v w' => LocO W2 m M v w') rfl rfl (by kernel_rfl) (by rfl) (by go_simp) (local_o m M W2 (HRM.out.below HB.out) HMM.out) (fun v w' h => by obtain ⟨A1, c1, L1, rfl, hr1, hs1, hb1⟩ := h; exact ⟨hS.1.below hb1 hS.1.lt, hS.2.1.below hb1 hS.2.1.lt, hS.2.2.1.below hb1 hS.2.2.1.lt, hS.2.2.2.1.trans (hb1.mono hS.2.2.2.1.size), hS.2.2.2.2.1.trans (hb1.mono hS.2.2.2.2.1.size), hS.2.2.2.2.2.trans (hb1.mono hS.2.2.2.2.2.size)⟩) ?_
      · skip
        intro v W3 h hS2
        obtain ⟨A1, c1, L1, rfl, hr1, hs1, hb1⟩ := h
        simp only [Act.put, List.setIfInBounds_toArray, List.set_cons_zero, List.set_cons_succ]
        have K9n := Lib.hid (K9.out.below hb1 K9.out.lt)
        clear K9
        have K9 := K9n
        clear K9n
        clear KP
        clear KQ
        clear K8
        clear HB
        clear HBQ
        clear HBH
        clear hS
        have hS := hS2
        clear hS2
        have KP := Lib.hid hS.1
        have KQ := Lib.hid hS.2.1
        have K8 := Lib.hid hS.2.2.1
        have HB := Lib.hid hS.2.2.2.1
        have HBQ := Lib.hid hS.2.2.2.2.1
        have HBH := Lib.hid hS.2.2.2.2.2
        have HXL := Lib.hid hr1
        have HSL := Lib.hid hs1
        clear hr1 hs1 hb1
        refine takeC (i := 11) (some 38) 13 #[.agg (loC ⟨m.s, m.nu, m.lv, A1, m.m, c1⟩), .agg (ajC b), .agg (heC (heV hd A2 c2)), .int .i64 now] (.tuple #[.agg (ajC R.1), .int .i64 R.2]) (R := fun w' => Below W3.heap.size W3 w') rfl rfl (by kernel_rfl) (by rfl) (by go_simp) (HST.out L1 L2 A1 A2 c1 c2 W3 (own_rd HXL.out) (HXH.out.below HBH.out) HSL.out HSH.out) (fun w' hb => ⟨hS.1.below hb hS.1.lt, hS.2.1.below hb hS.2.1.lt, hS.2.2.1.below hb hS.2.2.1.lt, hS.2.2.2.1.trans (hb.mono hS.2.2.2.1.size), hS.2.2.2.2.1.trans (hb.mono hS.2.2.2.2.1.size), hS.2.2.2.2.2.trans (hb.mono hS.2.2.2.2.2.size)⟩) ?_
        · skip
          intro W4 hb1 hS2
          simp only [Act.put, List.setIfInBounds_toArray, List.set_cons_zero, List.set_cons_succ]
          have HXLn := Lib.hid (HXL.out.below hb1)
          clear HXL
          have HXL := HXLn
          clear HXLn
          have K9n := Lib.hid (K9.out.below hb1 K9.out.lt)
          clear K9
          have K9 := K9n
          clear K9n
          clear KP
          clear KQ
          clear K8
          clear HB
          clear HBQ
          clear HBH
          clear hS
          have hS := hS2
          clear hS2
          have KP := Lib.hid hS.1
          have KQ := Lib.hid hS.2.1
          have K8 := Lib.hid hS.2.2.1
          have HB := Lib.hid hS.2.2.2.1
          have HBQ := Lib.hid hS.2.2.2.2.1
          have HBH := Lib.hid hS.2.2.2.2.2
          clear HXL HSL
          clear hb1
          refine takeY (i := 12) (some 26) (v := .tuple #[.agg (ajC R.1), .int .i64 R.2]) rfl rfl (by kernel_rfl) (by kernel_rfl) (by kernel_rfl) (fun _ _ _ h => h) (by rfl) (fun w' hS => by go_simp) hS ?_
          simp only [Act.put, List.setIfInBounds_toArray, List.set_cons_zero, List.set_cons_succ]
          refine takeY (i := 13) (some 39) (v := .agg (ajC R.1)) rfl rfl (by kernel_rfl) (by kernel_rfl) (by kernel_rfl) (fun _ _ _ h => h) (by rfl) (fun w' hS => by go_simp) hS ?_
          simp only [Act.put, List.setIfInBounds_toArray, List.set_cons_zero, List.set_cons_succ]
          refine takeY (i := 14) (some 40) (v := .int .i64 R.2) rfl rfl (by kernel_rfl) (by kernel_rfl) (by kernel_rfl) (fun _ _ _ h => h) (by rfl) (fun w' hS => by go_simp) hS ?_
          simp only [Act.put, List.setIfInBounds_toArray, List.set_cons_zero, List.set_cons_succ]
          refine takeSt (i := 16) 36 (.tmp 9) (.tmp 39) M0 0 (.agg (ajC R.1)) (ajC R.1) (ajC R.1) rfl rfl (by kernel_rfl) (by rfl) rfl rfl rfl rfl info_ajP (ajC_one _) K9.out (Nat.le_of_ble_eq_true rfl) (by kernel_rfl) ?_
          intro W5 q1
          refine ⟨⟨KP.out.far q1 (by omega), KQ.out.far q1 (by omega), K8.out.far q1 (by omega), HB.out.trans (q1.2.1 _ (by omega)), HBQ.out.trans (q1.2.1 _ (by omega)), HBH.out.trans (q1.2.1 _ (by omega))⟩, ?_⟩
          simp only [Act.put, List.setIfInBounds_toArray, List.set_cons_zero, List.set_cons_succ]
          have K9n : Hid (Blk 36 W5 M0 (ajC R.1)) := Lib.hid q1.1
          clear K9
          have K9 := K9n
          clear K9n
          have KPn := Lib.hid (KP.out.far q1 (by omega))
          clear KP
          have KP := KPn
          clear KPn
          have KQn := Lib.hid (KQ.out.far q1 (by omega))
          clear KQ
          have KQ := KQn
          clear KQn
          have K8n := Lib.hid (K8.out.far q1 (by omega))
          clear K8
          have K8 := K8n
          clear K8n
          have HBn := Lib.hid (HB.out.trans (q1.2.1 _ (by omega)))
          clear HB
          have HB := HBn
          clear HBn
          have HBQn := Lib.hid (HBQ.out.trans (q1.2.1 _ (by omega)))
          clear HBQ
          have HBQ := HBQn
          clear HBQn
          have HBHn := Lib.hid (HBH.out.trans (q1.2.1 _ (by omega)))
          clear HBH
          have HBH := HBHn
          clear HBHn
          clear q1 hS
          have hS := (And.intro KP.out (And.intro KQ.out (And.intro K8.out (And.intro HB.out (And.intro HBQ.out HBH.out)))))
          refine takeY (i := 17) (some 10) (v := .int .i64 R.2) rfl rfl (by kernel_rfl) (by kernel_rfl) (by kernel_rfl) (fun _ _ _ h => h) (by rfl) (fun w' hS => by go_simp) hS ?_
          simp only [Act.put, List.setIfInBounds_toArray, List.set_cons_zero, List.set_cons_succ]
          clear hS
          refine wpAnyH_done (by kernel_rfl) ?_ _
          go_wp2_with fail
          go_meet
          case rel => exact ⟨M0, rfl, rfl, K9, KP, KQ, K8, HB, HBQ, HBH⟩
  case rest =>
  clear KP
  clear KQ
  clear K8
  clear HB HBQ HBH
  obtain ⟨N9, rfl, rfl, K9, KP, KQ, K8, HB, HBQ, HBH⟩ := hcut
  obtain ⟨we, rfl⟩ : ∃ we, we = wc := ⟨_, rfl⟩
  go_wp2_with (refine wpList_ld (op := ⟨some 42, _, _, _, _, _⟩) (by rfl) 36 (.tmp 9) rfl N9 0 rfl (ajC R.1) _ K9.out.all Try.underlying36 rfl info_ajP ?_; refine Hid.out ?_)
  refine Lib.hid ?_
  have hpq := HPQ.out
  go_wp2_with (refine wpList_st rfl 36 (.tmp 44) (.tmp 42) rfl Q 9 rfl (.agg (ajC R.1)) (ajC R.1) rfl rfl info_ajP (ajC_one _) KQ.out (Nat.le_of_ble_eq_true rfl) (C' := sdC m R.1) (by kernel_rfl) ?_; intro wf q1; refine Hid.out ?_)
  refine Lib.hid ?_
  have KQ2 : Hid (Blk 56 wf Q (sdC m R.1)) := Lib.hid q1.1
  have KP2 := Lib.hid (KP.out.far q1 hpq)
  have HBF : Hid (∀ B, B ≤ Q → Below B w wf) := Lib.hid (fun B hB => (HBQ.out.mono (Nat.le_trans hB (Nat.le_of_lt HQL.out))).trans (q1.2.1 B hB))
  clear q1 KQ KP K8 K9 HB HBQ HBH hpq
  obtain ⟨F, hF⟩ : ∃ x, (R.2 == 0) = x := ⟨_, rfl⟩
  have HF := Lib.hid hF
  clear hF
  go_wp2_with fail
  go_ret
  exact ⟨rfl, KQ2.out, KP2.out, HBF.out⟩
end Go.Proofs.Ytcngkfmjngeofaa

/- Two sides that tell one another by turns: what each knows behind a round. Plain facts. Each theorem states its conditions. -/
namespace Go.Proofs.Ytcngkfmjngeofaa
open Go.RowKit
set_option linter.unusedVariables false

theorem eqY_comm2 (z s : Nat → Int) : eqY z s = eqY s z := by unfold eqY; exact Bool.beq_comm
theorem shB_comm (L : Nat → Sl) (m : Nat) (H : Nat → Sl) (k : Nat) : shB L m H k = shB H k L m := by
  by_cases h : Shr L m H k
  · rw [shB_yes h]
    obtain ⟨i, hi, j, hj, e⟩ := h
    exact (shB_yes ⟨j, hj, i, hi, e.symm⟩).symm
  · rw [shB_no h, shB_no]
    rintro ⟨j, hj, i, hi, e⟩
    exact h ⟨i, hi, j, hj, e.symm⟩
theorem comI_comm (x y : Int) (s : Bool) (hx : x = 1 ∨ x = 2 ∨ x = 3) (hy : y = 1 ∨ y = 2 ∨ y = 3) : comI x y s = comI y x s := by
  rcases hx with rfl | rfl | rfl <;> rcases hy with rfl | rfl | rfl <;> cases s <;> rfl
/-- b is in that state, and knows y if it knows anybody -/
def Kn (y : Lo) (C : Int) (st : Int) (b : Aj) : Prop := b.st = st ∧ (0 ≤ st ∧ st ≤ 2) ∧ (st = 2 ∨ (b.p = y.s ∧ b.nu = y.nu ∧ b.lv = C))
/-- what the two sides must have in common -/
structure Meet (l m : Lo) (s : Bool) : Prop where
  lv1 : l.lv = 1 ∨ l.lv = 2 ∨ l.lv = 3
  lv2 : m.lv = 1 ∨ m.lv = 2 ∨ m.lv = 3
  m1 : l.m ≤ 3
  m2 : m.m ≤ 3
  ne : eqY l.s m.s = false
  com : comI m.lv l.lv s ≠ 0
theorem Meet.symm {l m : Lo} {s : Bool} (h : Meet l m s) : Meet m l s :=
  ⟨h.lv2, h.lv1, h.m2, h.m1, by rw [eqY_comm2]; exact h.ne, by rw [comI_comm _ _ _ h.lv1 h.lv2]; exact h.com⟩
theorem tellE_zero {l : Lo} {a : Aj} (hl : l.lv = 1 ∨ l.lv = 2 ∨ l.lv = 3) (hm : l.m ≤ 3) (ha : 0 ≤ a.st ∧ a.st ≤ 2) : tellE l a 10 = 0 := by
  unfold tellE
  have h1 : lvBad l.lv = false := by simp [lvBad]; omega
  have h2 : stBad a.st = false := by simp [stBad]; omega
  have h3 : hoBad 10 = false := by decide
  have h4 : decide (3 < l.m) = false := by simp; omega
  rw [h1, h2, h3, h4]
  rfl
theorem thB_iff {n : Int} (h : 0 ≤ n ∧ n ≤ 2) : thB n = decide (n ≠ 2) := by
  rcases (by omega : n = 0 ∨ n = 1 ∨ n = 2) with rfl | rfl | rfl <;> rfl
theorem eqY_self (z : Nat → Int) : eqY z z = true := by unfold eqY; simp
/-- l tells m, which knew b -/
theorem meet_step (l m : Lo) (a b : Aj) (now : Int) (s : Bool) (hM : Meet l m s) (ha : 0 ≤ a.st ∧ a.st ≤ 2) (hn : a.st = 2 ∨ (a.p = m.s ∧ a.nu = m.nu)) (hb : 0 ≤ b.st ∧ b.st ≤ 2) (hnow : 0 ≤ now ∧ now ≤ 1000) :
    (stepR m b (tellD l a 10) now s).2 = 0 ∧ Kn l (comI m.lv l.lv s) (behS (toS b (tellD l a 10) (comI m.lv l.lv s)) a.st) (stepR m b (tellD l a 10) now s).1 := by
  have hE : tellE l a 10 = 0 := tellE_zero hM.lv1 hM.m1 ha
  have hD : tellD l a 10 = tellH l a 10 l.A l.c := if_pos hE
  rw [hD]
  have hk : chkS m b (tellH l a 10 l.A l.c) now = 0 := by
    unfold chkS
    have h1 : lvBad m.lv = false := by have := hM.lv2; simp [lvBad]; omega
    have h2 : lvBad (tellH l a 10 l.A l.c).lv = false := by have := hM.lv1; show lvBad l.lv = false; simp [lvBad]; omega
    have h3 : stBad b.st = false := by simp [stBad]; omega
    have h4 : stBad (tellH l a 10 l.A l.c).st = false := by show stBad a.st = false; simp [stBad]; omega
    have h5 : hoBad (tellH l a 10 l.A l.c).ho = false := by show hoBad 10 = false; decide
    have h6 : decide (now < 0) = false := by simp; omega
    have h7 : decide (4611686018427387904 < now) = false := by simp; omega
    have h8 : decide (3 < m.m) = false := by have := hM.m2; simp; omega
    have h9 : decide (3 < (tellH l a 10 l.A l.c).m) = false := by have := hM.m1; show decide (3 < l.m) = false; simp; omega
    have h10 : eqY (tellH l a 10 l.A l.c).s m.s = false := hM.ne
    rw [h1, h2, h3, h4, h5, h6, h7, h8, h9, h10]
    rfl
  have hc : comI m.lv (tellH l a 10 l.A l.c).lv s ≠ 0 := hM.com
  have hof : ofS (tellH l a 10 l.A l.c) = a.st := by
    unfold ofS
    show (if thB a.st = true then a.st else 2) = a.st
    rw [thB_iff ha]
    by_cases h2 : a.st = 2
    · rw [if_neg (by simp [h2])]; omega
    · rw [if_pos (by simp [h2])]
  have hnm : ((tellH l a 10 l.A l.c).nm && (!eqY (tellH l a 10 l.A l.c).th m.s || (tellH l a 10 l.A l.c).tn != m.nu)) = false := by
    show (thB a.st && (!eqY (if thB a.st = true then a.p else z0) m.s || (if thB a.st = true then a.nu else 0) != m.nu)) = false
    rw [thB_iff ha]
    by_cases h2 : a.st = 2
    · simp [h2]
    · obtain ⟨e1, e2⟩ := hn.resolve_left h2
      simp [h2, e1, e2, eqY_self]
  have e : stepR m b (tellH l a 10 l.A l.c) now s = if behS (toS b (tellH l a 10 l.A l.c) (comI m.lv l.lv s)) a.st = 2 then (ajD, 0) else (⟨behS (toS b (tellH l a 10 l.A l.c) (comI m.lv l.lv s)) a.st, l.s, l.nu, comI m.lv l.lv s, now + 10⟩, 0) := by
    unfold stepR
    rw [if_neg (by rw [hk]; simp), if_neg hc, if_neg (by rw [hnm]; simp), hof]
    rfl
  rw [e]
  obtain ⟨t, ht⟩ : ∃ t, behS (toS b (tellH l a 10 l.A l.c) (comI m.lv l.lv s)) a.st = t := ⟨_, rfl⟩
  have hbd := behS_bd (toS b (tellH l a 10 l.A l.c) (comI m.lv l.lv s)) a.st
  rw [ht] at hbd ⊢
  by_cases h2 : t = 2
  · rw [if_pos h2]
    exact ⟨rfl, h2.symm, by omega, .inl h2⟩
  · rw [if_neg h2]
    exact ⟨rfl, rfl, by omega, .inr ⟨rfl, rfl, rfl⟩⟩
/-- whoever is known is taken as known -/
theorem toS_kn {y : Lo} {C st : Int} {b : Aj} {h : He} (hb : Kn y C st b) (hs : h.s = y.s) (hn : h.nu = y.nu) : toS b h C = st := by
  obtain ⟨h1, h2, h3⟩ := hb
  rcases h3 with h3 | ⟨h3, h4, h5⟩
  · unfold toS
    rw [if_neg]
    · exact h1
    · rw [thB_iff (by omega)]
      simp
      omega
  · unfold toS
    rw [if_neg]
    · exact h1
    · rw [h3, h4, h5, hs, hn, eqY_self]
      simp
/-- the states behind round i -/
def Rnd (i : Nat) (r q : Int) : Prop := (i = 1 ∧ ((r = 0 ∧ q = 1) ∨ (r = 0 ∧ q = 0) ∨ (r = 2 ∧ q = 0) ∨ (r = 1 ∧ q = 2))) ∨ (i = 2 ∧ ((r = 0 ∧ q = 0) ∨ (r = 0 ∧ q = 1))) ∨ (3 ≤ i ∧ r = 0 ∧ q = 0)
theorem rnd_next {i : Nat} {r q : Int} (h : Rnd i r q) : Rnd (i + 1) (behS r (behS q r)) (behS q r) := by
  rcases h with ⟨rfl, h⟩ | ⟨rfl, h⟩ | ⟨hi, rfl, rfl⟩
  · rcases h with ⟨rfl, rfl⟩ | ⟨rfl, rfl⟩ | ⟨rfl, rfl⟩ | ⟨rfl, rfl⟩ <;> exact .inr (.inl ⟨rfl, by decide⟩)
  · rcases h with ⟨rfl, rfl⟩ | ⟨rfl, rfl⟩ <;> exact .inr (.inr ⟨by omega, by decide, by decide⟩)
  · exact .inr (.inr ⟨by omega, by decide, by decide⟩)
theorem rnd_first {p ta tb : Int} (hp : 0 ≤ p ∧ p ≤ 2) (hta : ta = p ∨ ta = 2) (htb : 0 ≤ tb ∧ tb ≤ 2) : Rnd 1 (behS ta (behS tb p)) (behS tb p) := by
  refine .inl ⟨rfl, ?_⟩
  rcases (by omega : p = 0 ∨ p = 1 ∨ p = 2) with rfl | rfl | rfl <;> rcases hta with rfl | rfl <;> rcases (by omega : tb = 0 ∨ tb = 1 ∨ tb = 2) with rfl | rfl | rfl <;> decide
end Go.Proofs.Ytcngkfmjngeofaa

/- Steps and plain facts for the law that both know. Each theorem states its conditions. -/
namespace Go.Proofs.Ytcngkfmjngeofaa
open Go.RowKit
set_option linter.unusedVariables false

theorem lev3 (n : Int) : ∃ x, wrap64 (1 + wrap64 ((IntKind.u64.wrap n).tmod 3)) = x ∧ (x = 1 ∨ x = 2 ∨ x = 3) := by
  refine ⟨_, rfl, ?_⟩
  have h0 : 0 ≤ IntKind.u64.wrap n := by rw [IntKind.wrap_u64]; omega
  generalize IntKind.u64.wrap n = a at h0
  rw [Int.tmod_eq_emod_of_nonneg h0]
  rw [show wrap64 (a % 3) = a % 3 from by unfold wrap64; omega]
  unfold wrap64
  omega
theorem min3 (n c : Nat) (h : n ≤ c) : ∃ k : Nat, (if 3 < (n : Int) then 3 else (n : Int)) = (k : Int) ∧ k ≤ 3 ∧ k ≤ n ∧ k ≤ c := by
  by_cases h3 : 3 < (n : Int)
  · exact ⟨3, by rw [if_pos h3]; rfl, by omega, by omega, by omega⟩
  · exact ⟨n, by rw [if_neg h3], by omega, by omega, h⟩
theorem RdS.less {w : World} {A : Option Addr} {m k : Nat} {L : Nat → Sl} (h : RdS w A m L) (hk : k ≤ m) : RdS w A k L := by
  rcases h with h | ⟨b, off, hA, h1, h2⟩
  · exact .inl (by omega)
  · exact .inr ⟨b, off, hA, h1, fun j hj => h2 j (by omega)⟩
theorem Blk.drew {t : TypeId} {w : World} {g : Nat} {C : Array Value} (h : Blk t w g C) : Blk t w.drew g C := h
/-- one cell is written -/
theorem set_stored {w : World} {b : Nat} {C : Array Value} {t : TypeId} (h : Blk t w b C) (o : Nat) (v : Value) (C' : Array Value) (hC : C.setIfInBounds o v = C') : Stored w (w.setCell ⟨b, o, none⟩ v) b C' t := by
  subst hC
  exact ⟨heap_setMany b t [v] o w C h, fun B hB => below_setMany b [v] o w B hB, fun k hk => other_setMany b k hk [v] o w⟩
/-- one cell of each of two blocks is written, in a region whose order is drawn -/
theorem set_two {w wf : World} {a b c : Nat} {C C' D D' E : Array Value} {t u B : Nat} (ha : Blk t w a C) (hb : Blk t w b D) (hc : Blk u w c E) (hab : a < b) (hbc : b < c) (hB : Below B wf w) (hBa : B ≤ a) (o : Nat) (x y : Value) (h1 : C.setIfInBounds o x = C') (h2 : D.setIfInBounds o y = D') :
    Blk t ((w.setCell ⟨a, o, none⟩ x).setCell ⟨b, o, none⟩ y).drew a C' ∧ Blk t ((w.setCell ⟨a, o, none⟩ x).setCell ⟨b, o, none⟩ y).drew b D' ∧ Blk u ((w.setCell ⟨a, o, none⟩ x).setCell ⟨b, o, none⟩ y).drew c E ∧ Below B wf ((w.setCell ⟨a, o, none⟩ x).setCell ⟨b, o, none⟩ y).drew := by
  have q1 := set_stored ha o x C' h1
  have q2 := set_stored (hb.far q1 (by omega)) o y D' h2
  have k1 : Blk t _ a C' := q1.1
  have k2 : Blk t _ b D' := q2.1
  exact ⟨(k1.far q2 (by omega)).drew, k2.drew, ((hc.far q1 (by omega)).far q2 (by omega)).drew, (hB.trans ((q1.2.1 _ (by omega)).trans (q2.2.1 _ (by omega)))).drew⟩
/-- a value is put into a new block, where it alone may come up -/
theorem takeBx {ops : Array Oper} {Q : Exit → Act → World → Prop} {md : Region.Mode} {S : World → Prop} {i : Nat} {oi : Oper} (d : Option Tmp) {fuel : Nat} {listed : Array Bool} {a : Act} {w : World} (t : TypeId) (x : Operand) (C : Array Value) (hi : ops[i]? = some oi) (hd : oi.dst = d)
    (hr : Region.ready md ops listed = [i]) (hw : Region.wanted oi (yielded ops a.tmps) = true) (ho : oi.op = .box t x) (hx : a.eval x = .agg C) (N : Nat) (hN : w.heap.size = N)
    (h : ∀ w', Blk t w' N C → Below w.heap.size w w' → N + 1 ≤ w'.heap.size → S w' ∧ wpAnyH Try.prog md ops Q S fuel (listed.setIfInBounds i true) (a.put d (.pointer (some ⟨N, 0, none⟩))) w') : wpAnyH Try.prog md ops Q S (fuel + 1) listed a w := by
  subst hN
  obtain ⟨h1, h2⟩ := h _ (heap_alloc_new w _) ((Below.refl _ _).alloc (Nat.le_refl _) _) (by simp)
  exact takeV d hi hd hr hw (box_run oi a.eval t x ho C hx w) h1 h2
/-- of several that may come up: a value is put into a new block -/
theorem consBx {ops : Array Oper} {Q : Exit → Act → World → Prop} {md : Region.Mode} {S : World → Prop} {i : Nat} {oi : Oper} (d : Option Tmp) {rs : List Nat} {fuel : Nat} {listed : Array Bool} {a : Act} {w : World} (t : TypeId) (x : Operand) (C : Array Value) (hi : ops[i]? = some oi) (hd : oi.dst = d)
    (hw : Region.wanted oi (yielded ops a.tmps) = true) (ho : oi.op = .box t x) (hx : a.eval x = .agg C) (N : Nat) (hN : w.heap.size = N)
    (h : ∀ w', Blk t w' N C → Below w.heap.size w w' → N + 1 ≤ w'.heap.size → S w' ∧ wpAnyH Try.prog md ops Q S fuel (listed.setIfInBounds i true) (a.put d (.pointer (some ⟨N, 0, none⟩))) w') (hs : AllReadyH Try.prog md ops Q S fuel listed a w rs) : AllReadyH Try.prog md ops Q S fuel listed a w (i :: rs) := by
  subst hN
  obtain ⟨h1, h2⟩ := h _ (heap_alloc_new w _) ((Below.refl _ _).alloc (Nat.le_refl _) _) (by simp)
  exact consVW d hi hd hw (box_run oi a.eval t x ho C hx w) h1 h2 hs
theorem info_sdA : (Try.prog.info? 36).map (·.size) = some (ajC aj0).size := by kernel_rfl
theorem build_ajx (o : Oper) (e : Operand → Value) (x0 x1 x2 x3 x4 : Operand) (ho : o.op = .build 36 #[(0, x0), (1, x1), (2, x2), (3, x3), (4, x4)]) (b : Aj) (h0 : e x0 = .int .i64 b.st) (h1 : e x1 = .agg (syC b.p)) (h2 : e x2 = .int .u8 b.nu) (h3 : e x3 = .int .i64 b.lv) (h4 : e x4 = .int .i64 b.un) (W : World) :
    (execOp e o).run Try.prog W = .ok (.value (.agg (ajC b))) W := by
  unfold execOp
  simp only [ho]
  simp only [List.map_toArray, List.map_cons, List.map_nil, h0, h1, h2, h3, h4]
  kernel_rfl
theorem mod3 {n : Int} (h : 0 ≤ n ∧ n ≤ 255) : 0 ≤ n.tmod 3 ∧ n.tmod 3 ≤ 2 := by
  rw [Int.tmod_eq_emod_of_nonneg h.1]
  omega
theorem run_quo3 (o : Oper) (e : Operand → Value) (x y : Operand) (ho : o.op = .binOp .quo 5 x y 5) (n q : Int) (h0 : e x = .int .u8 n) (h1 : e y = .int .u8 3) (hq : IntKind.u8.wrap (n.tdiv 3) = q) (W : World) : (execOp e o).run Try.prog W = .ok (.value (.int .u8 q)) W := by
  subst hq
  unfold execOp
  simp only [ho, h0, h1]
  simp [go_sem]
theorem run_rem3 (o : Oper) (e : Operand → Value) (x y : Operand) (ho : o.op = .binOp .rem 3 x y 3) (n q : Int) (h0 : e x = .int .i64 n) (h1 : e y = .int .i64 3) (hq : n.tmod 3 = q) (W : World) : (execOp e o).run Try.prog W = .ok (.value (.int .i64 q)) W := by
  subst hq
  unfold execOp
  simp only [ho, h0, h1]
  simp [go_sem]
/-- what the first side may know at the beginning -/
def StA (m : Lo) (a : Aj) : Prop := (0 ≤ a.st ∧ a.st ≤ 2) ∧ (a.st = 2 ∨ (a.p = m.s ∧ a.nu = m.nu)) ∧ byB a.p
/-- what the second side may know at the beginning -/
def StB (b : Aj) : Prop := (0 ≤ b.st ∧ b.st ≤ 2) ∧ byB b.p
theorem stA_D (m : Lo) : StA m ajD := ⟨⟨by show (0 : Int) ≤ 2; omega, by show (2 : Int) ≤ 2; omega⟩, .inl rfl, by_z0⟩
theorem stB_D : StB ajD := ⟨⟨by show (0 : Int) ≤ 2; omega, by show (2 : Int) ≤ 2; omega⟩, by_z0⟩
theorem stW {n : Int} (h : 0 ≤ n ∧ n ≤ 255) : 0 ≤ wrap64 (n.tmod 3) ∧ wrap64 (n.tmod 3) ≤ 2 := by
  have := mod3 h
  unfold wrap64
  omega
theorem cnt5 {n : Int} (h : 0 ≤ n ∧ n ≤ 255) : ∃ k : Nat, wrap64 (4 + wrap64 (n.tmod 5)) = (k : Int) ∧ 4 ≤ k ∧ k ≤ 8 := by
  refine ⟨(4 + n % 5).toNat, ?_, by omega, by omega⟩
  rw [Int.tmod_eq_emod_of_nonneg h.1, show wrap64 (n % 5) = n % 5 from by unfold wrap64; omega]
  unfold wrap64
  omega
/-- the hello of the law's own test -/
def heM (m : Lo) : He := ⟨m.s, 0, m.lv, 1, m.A, m.m, m.c, 2, false, z0, 0⟩
/-- either the levels have nothing in common, or the two may meet -/
theorem first_step {l m : Lo} {s : Bool} (h1 : l.lv = 1 ∨ l.lv = 2 ∨ l.lv = 3) (h2 : m.lv = 1 ∨ m.lv = 2 ∨ m.lv = 3) (h3 : l.m ≤ 3) (h4 : m.m ≤ 3) (hq : eqY l.s m.s = false) {R : Aj × Int} (hR : stepR l ajD (heM m) 0 s = R) : R.2 = 12 ∨ (R.2 = 0 ∧ Meet l m s) := by
  subst hR
  have hk : chkS l ajD (heM m) 0 = 0 := by
    unfold chkS
    have e1 : lvBad l.lv = false := by simp [lvBad]; omega
    have e2 : lvBad (heM m).lv = false := by show lvBad m.lv = false; simp [lvBad]; omega
    have e3 : stBad ajD.st = false := by show stBad 2 = false; decide
    have e4 : stBad (heM m).st = false := by show stBad 2 = false; decide
    have e5 : hoBad (heM m).ho = false := by show hoBad 1 = false; decide
    have e6 : decide ((0 : Int) < 0) = false := by decide
    have e7 : decide ((4611686018427387904 : Int) < 0) = false := by decide
    have e8 : decide (3 < l.m) = false := by simp; omega
    have e9 : decide (3 < (heM m).m) = false := by show decide (3 < m.m) = false; simp; omega
    have e10 : eqY (heM m).s l.s = false := by show eqY m.s l.s = false; rw [eqY_comm2]; exact hq
    rw [e1, e2, e3, e4, e5, e6, e7, e8, e9, e10]
    rfl
  unfold stepR
  rw [if_neg (by rw [hk]; simp)]
  by_cases hc : comI l.lv (heM m).lv s = 0
  · rw [if_pos hc]
    exact .inl rfl
  · rw [if_neg hc]
    have hM : Meet l m s := ⟨h1, h2, h3, h4, hq, by rw [comI_comm _ _ _ h2 h1]; exact hc⟩
    rw [if_neg (by show ¬ ((false && _) = true); simp)]
    split
    · exact .inr ⟨rfl, hM⟩
    · exact .inr ⟨rfl, hM⟩
/-- what both know behind i rounds -/
def StI (l m : Lo) (C : Int) (i : Nat) (a b : Aj) : Prop := byB a.p ∧ byB b.p ∧ ((i = 0 ∧ StA m a ∧ StB b) ∨ (1 ≤ i ∧ ∃ r q, Kn m C r a ∧ Kn l C q b ∧ Rnd i r q))
theorem tellD_eq {l : Lo} {a : Aj} (h : tellE l a 10 = 0) : tellD l a 10 = tellH l a 10 l.A l.c := if_pos h
theorem StI.bds {l m : Lo} {C : Int} {i : Nat} {a b : Aj} (h : StI l m C i a b) : (0 ≤ a.st ∧ a.st ≤ 2) ∧ (a.st = 2 ∨ (a.p = m.s ∧ a.nu = m.nu)) ∧ (0 ≤ b.st ∧ b.st ≤ 2) := by
  rcases h.2.2 with ⟨_, h1, h2⟩ | ⟨_, r, q, h1, h2, _⟩
  · exact ⟨h1.1, h1.2.1, h2.1⟩
  · obtain ⟨rfl, e2, e3⟩ := h1
    obtain ⟨rfl, e5, _⟩ := h2
    exact ⟨e2, e3.imp id (fun e => ⟨e.1, e.2.1⟩), e5⟩
theorem toS_or (a : Aj) (h : He) (v : Int) : toS a h v = a.st ∨ toS a h v = 2 := by
  unfold toS
  split
  · exact .inr rfl
  · exact .inl rfl
/-- one round: each tells the other -/
theorem round_any {l m : Lo} {s : Bool} (hM : Meet l m s) (hl : byB l.s) (hm : byB m.s) {i : Nat} (hi : i ≤ 900) {a b : Aj} (h : StI l m (comI m.lv l.lv s) i a b) {R1 R2 : Aj × Int} (h1 : stepR m b (tellD l a 10) i s = R1) (h2 : stepR l a (tellD m R1.1 10) i s = R2) :
    R1.2 = 0 ∧ R2.2 = 0 ∧ byB R1.1.p ∧ tellE l a 10 = 0 ∧ tellE m R1.1 10 = 0 ∧ StI l m (comI m.lv l.lv s) (i + 1) R2.1 R1.1 := by
  obtain ⟨ba, bn, bb⟩ := h.bds
  have hE1 : tellE l a 10 = 0 := tellE_zero hM.lv1 hM.m1 ba
  obtain ⟨z1, k1⟩ := meet_step l m a b i s hM ba bn bb (by omega)
  rw [h1] at z1 k1
  have hR1 : 0 ≤ R1.1.st ∧ R1.1.st ≤ 2 := by rw [k1.1]; exact k1.2.1
  have hE2 : tellE m R1.1 10 = 0 := tellE_zero hM.lv2 hM.m2 hR1
  have hn1 : R1.1.st = 2 ∨ (R1.1.p = l.s ∧ R1.1.nu = l.nu) := by
    rcases k1.2.2 with e | ⟨e1, e2, _⟩
    · exact .inl (by rw [k1.1]; exact e)
    · exact .inr ⟨e1, e2⟩
  obtain ⟨z2, k2⟩ := meet_step m l R1.1 a i s hM.symm hR1 hn1 ba (by omega)
  rw [h2] at z2 k2
  rw [comI_comm l.lv m.lv s hM.lv1 hM.lv2] at k2
  have b1 : byB R1.1.p := by rw [← h1]; exact stepR_by h.2.1 (tellD_by l a 10 hl h.1).1
  have b2 : byB R2.1.p := by rw [← h2]; exact stepR_by h.1 (tellD_by m R1.1 10 hm b1).1
  refine ⟨z1, z2, b1, hE1, hE2, b2, b1, .inr ⟨by omega, _, _, k2, k1, ?_⟩⟩
  rw [k1.1]
  rcases h.2.2 with ⟨rfl, hA, hB⟩ | ⟨hi1, r, q, ka, kb, hr⟩
  · refine rnd_first ba (toS_or _ _ _) ?_
    rcases toS_or b (tellD l a 10) (comI m.lv l.lv s) with e | e <;> rw [e]
    · exact bb
    · omega
  · have e1 : toS b (tellD l a 10) (comI m.lv l.lv s) = q := toS_kn kb (by rw [tellD_eq hE1]; rfl) (by rw [tellD_eq hE1]; rfl)
    have e2 : toS a (tellD m R1.1 10) (comI m.lv l.lv s) = r := toS_kn ka (by rw [tellD_eq hE2]; rfl) (by rw [tellD_eq hE2]; rfl)
    rw [e1, e2, ka.1]
    exact rnd_next hr
theorem sh_two {l m : Lo} {L M : Nat → Sl} {a : Aj} {s : Bool} (hE : tellE l a 10 = 0) (hs : shB L l.m M m.m = s) : shB M m.m L (tellD l a 10).m = s := by
  rw [tellD_eq hE, shB_comm]
  exact hs
theorem sh_one {l m : Lo} {L M : Nat → Sl} {b : Aj} {s : Bool} (hE : tellE m b 10 = 0) (hs : shB L l.m M m.m = s) : shB L l.m M (tellD m b 10).m = s := by
  rw [tellD_eq hE]
  exact hs
/-- behind the rounds both are up -/
theorem StI.last {l m : Lo} {C : Int} {i : Nat} {a b : Aj} (h : StI l m C i a b) (hi : 4 ≤ i) : (∃ ua, a = ⟨0, m.s, m.nu, C, ua⟩) ∧ ∃ ub, b = ⟨0, l.s, l.nu, C, ub⟩ := by
  obtain ⟨_, _, ⟨h0, _⟩ | ⟨_, r, q, ka, kb, hr⟩⟩ := h
  · omega
  · have h2 : r = 0 ∧ q = 0 := by
      rcases hr with ⟨h1, _⟩ | ⟨h1, _⟩ | ⟨_, h2⟩
      · omega
      · omega
      · exact h2
    obtain ⟨rfl, rfl⟩ := h2
    obtain ⟨a1, _, a2⟩ := ka
    obtain ⟨b1, _, b2⟩ := kb
    obtain ⟨a2, a3, a4⟩ := a2.resolve_left (by omega)
    obtain ⟨b2, b3, b4⟩ := b2.resolve_left (by omega)
    obtain ⟨st, p, nu, lv, un⟩ := a
    obtain ⟨st', p', nu', lv', un'⟩ := b
    have e1 : st = 0 := a1
    have e2 : p = m.s := a2
    have e3 : nu = m.nu := a3
    have e4 : lv = C := a4
    have f1 : st' = 0 := b1
    have f2 : p' = l.s := b2
    have f3 : nu' = l.nu := b3
    have f4 : lv' = C := b4
    exact ⟨⟨un, by rw [e1, e2, e3, e4]⟩, ⟨un', by rw [f1, f2, f3, f4]⟩⟩
theorem Blk.sdp {t : TypeId} {w : World} {g : Nat} {l : Lo} {a : Aj} (h : Blk t w g (sdC l a)) : w.rangeAt g 10 (syC a.p).toList := h.range (six ⟨rfl, rfl, rfl, rfl, rfl, rfl⟩)
/-- both sides are up -/
structure SdS (w0 : World) (P Q N1 N2 : Nat) (l m : Lo) (c ua : Int) (w : World) : Prop where
  p : Blk 56 w P (sdC l ⟨0, m.s, m.nu, c, ua⟩)
  q : ∃ ub, Blk 56 w Q (sdC m ⟨0, l.s, l.nu, c, ub⟩)
  k1 : Blk 26 w N1 (loC l)
  k2 : Blk 26 w N2 (loC m)
  b : Below w0.heap.size w0 w
theorem SdS.drew {w0 w : World} {P Q N1 N2 : Nat} {l m : Lo} {c ua : Int} (h : SdS w0 P Q N1 N2 l m c ua w) : SdS w0 P Q N1 N2 l m c ua w.drew := ⟨h.p.drew, h.q.imp fun _ h => h.drew, h.k1.drew, h.k2.drew, h.b.drew⟩
theorem set_step {l m : Lo} {s : Bool} {c ua ub t : Int} (hM : Meet l m s) (hc : comI m.lv l.lv s = c) (ht : 0 ≤ t ∧ t ≤ 1000) {R : Aj × Int} (hR : stepR m ⟨0, l.s, l.nu, c, ub⟩ (tellD l ⟨0, m.s, m.nu, c, ua⟩ 10) t s = R) :
    R.2 = 0 ∧ tellE l ⟨0, m.s, m.nu, c, ua⟩ 10 = 0 ∧ ∃ ub', R.1 = ⟨0, l.s, l.nu, c, ub'⟩ := by
  have hE : tellE l ⟨0, m.s, m.nu, c, ua⟩ 10 = 0 := tellE_zero hM.lv1 hM.m1 ⟨by show (0 : Int) ≤ 0; omega, by show (0 : Int) ≤ 2; omega⟩
  obtain ⟨z, k⟩ := meet_step l m ⟨0, m.s, m.nu, c, ua⟩ ⟨0, l.s, l.nu, c, ub⟩ t s hM ⟨by show (0 : Int) ≤ 0; omega, by show (0 : Int) ≤ 2; omega⟩ (.inr ⟨rfl, rfl⟩) ⟨by show (0 : Int) ≤ 0; omega, by show (0 : Int) ≤ 2; omega⟩ ht
  rw [hR] at z k
  rw [hc] at k
  rw [toS_kn (y := l) (C := c) (st := 0) ⟨rfl, by omega, .inr ⟨rfl, rfl, rfl⟩⟩ (by rw [tellD_eq hE]; rfl) (by rw [tellD_eq hE]; rfl)] at k
  refine ⟨z, hE, ?_⟩
  obtain ⟨a, e⟩ := R
  obtain ⟨st, p, nu, lv, un⟩ := a
  obtain ⟨a1, _, a2⟩ := k
  have e1 : st = 0 := a1.trans (by show behS 0 0 = 0; decide)
  obtain ⟨a2, a3, a4⟩ := a2.resolve_left (by show ¬ behS 0 0 = 2; decide)
  have e2 : p = l.s := a2
  have e3 : nu = l.nu := a3
  have e4 : lv = c := a4
  exact ⟨un, by rw [e1, e2, e3, e4]⟩
/-- the first tells the second, and both stay up -/
theorem speak_set {P Q N1 N2 : Nat} {l m : Lo} {c ua t : Int} {L M : Nat → Sl} {w0 w : World} {s : Bool} (h : SdS w0 P Q N1 N2 l m c ua w) (h1 : N1 < Q) (h2 : N2 < Q) (hPQ : P ≠ Q) (hl : byB l.s) (hm : byB m.s) (hL : RdS w0 l.A l.m L) (hR : RdS w0 m.A m.m M) (hlm : l.m * 24 ≤ 140737488351232) (hmm : m.m * 24 ≤ 140737488351232)
    (hP0 : w0.heap.size ≤ P) (hQ0 : w0.heap.size ≤ Q) (hs : shB L l.m M m.m = s) (hM : Meet l m s) (hc : comI m.lv l.lv s = c) (ht : 0 ≤ t ∧ t ≤ 1000) :
    Calls Try.prog 21 #[.pointer (some ⟨P, 0, none⟩), .pointer (some ⟨Q, 0, none⟩), .int .i64 t] w fun e w' => ∃ v, e = .returned v ∧ (v = .bool true ∧ SdS w0 P Q N1 N2 l m c ua w') := by
  obtain ⟨ub, hq⟩ := h.q
  obtain ⟨R, hR1⟩ : ∃ R, stepR m ⟨0, l.s, l.nu, c, ub⟩ (tellD l ⟨0, m.s, m.nu, c, ua⟩ 10) t s = R := ⟨_, rfl⟩
  obtain ⟨z, hE, ub', hb⟩ := set_step hM hc ht hR1
  refine (speak_any P Q l m ⟨0, m.s, m.nu, c, ua⟩ ⟨0, l.s, l.nu, c, ub⟩ t L M w0 w h.p hq hPQ hl hm hm hl h.b hL hR hlm hmm hE hP0 hQ0 R (by rw [sh_two hE hs]; exact hR1)).mono ?_
  rintro e w' ⟨he, kq, kp, hbw⟩
  rw [z] at he
  rw [hb] at kq
  exact ⟨_, he, rfl, kp, ⟨ub', kq⟩, h.k1.below (hbw Q (Nat.le_refl _)) h1, h.k2.below (hbw Q (Nat.le_refl _)) h2, h.b.trans (hbw _ hQ0)⟩
theorem build_heM (o : Oper) (e : Operand → Value) (x0 x2 x3 x4 x5 : Operand) (ho : o.op = .build 30 #[(0, x0), (2, x2), (3, x3), (4, x4), (5, x5)]) (m : Lo) (hd : He) (hm : heM m = hd) (h0 : e x0 = .agg (syC m.s)) (h2 : e x2 = .int .i64 m.lv) (h3 : e x3 = .int .i64 1) (h4 : e x4 = .slice m.A m.m m.c) (h5 : e x5 = .int .i64 2) (W : World) :
    (execOp e o).run Try.prog W = .ok (.value (.agg (heC hd))) W := by
  subst hm
  unfold execOp
  simp only [ho]
  simp only [List.map_toArray, List.map_cons, List.map_nil, h0, h2, h3, h4, h5]
  kernel_rfl
theorem build_sd (o : Oper) (e : Operand → Value) (x0 x1 : Operand) (ho : o.op = .build 56 #[(0, x0), (1, x1)]) (l : Lo) (a : Aj) (h0 : e x0 = .agg (loC l)) (h1 : e x1 = .agg (ajC a)) (W : World) : (execOp e o).run Try.prog W = .ok (.value (.agg (sdC l a))) W := by
  unfold execOp
  simp only [ho]
  simp only [List.map_toArray, List.map_cons, List.map_nil, h0, h1]
  kernel_rfl
theorem sd_put (l : Lo) (a b : Aj) : putMany (sdC l a) 9 (ajC b).toList = sdC l b := by kernel_rfl
theorem aj_put (a b : Aj) : putMany (ajC a) 0 (ajC b).toList = ajC b := by kernel_rfl
end Go.Proofs.Ytcngkfmjngeofaa
