/- Texts of this claim put together; each theorem states its conditions. -/
import Derived.Test.YtccoicjmmeoggaaDoorGMacOpensCard7
import Derived.RegionTactic
import Derived.Test.YtccoicjmmeoggaaDoorGMacOpensCard6
import Derived.Test.YtccoicjmmeoggaaDoorGMacOpensCard4
/- The document's Sha: the sum of a text. Each theorem states its conditions. -/
namespace Go.Proofs.YtccoicjmmeoggaaDoor
open Go.RowKit
set_option linter.unusedVariables false

theorem Row8.lt {w : World} {b o n : Nat} {z : Nat → Int} (h : Row8 w b o n z) : b < w.heap.size := h.1
theorem Row8.far {w w' : World} {b o n c : Nat} {z : Nat → Int} {C : Array Value} {t : TypeId} (h : Row8 w b o n z) (hs : Stored w w' c C t) (hk : b ≠ c) : Row8 w' b o n z := by
  have e := hs.2.2 b hk
  refine ⟨?_, fun j hj => (World.cell?_of_block e).trans (h.2.1 j hj), h.2.2⟩
  rw [Array.getElem?_eq_getElem h.1] at e
  exact (Array.getElem?_eq_some_iff.1 e).1
theorem HOut.far {w0 w w' : World} {v : Value} {n b : Nat} {z : Nat → Int} {C : Array Value} {t : TypeId} (h : HOut w0 w v n z []) (hs : Stored w w' b C t) (hk : v.ownBlock ≠ some b) (hb : w0.heap.size ≤ b) : HOut w0 w' v n z [] := by
  refine ⟨⟨⟨h.1.1.1, ?_⟩, h.1.2⟩, h.2.1.trans (hs.2.1 _ hb), HKp.nil _, fun p hp => by cases hp⟩
  rcases h.1.1.2 with ⟨rfl, e⟩ | ⟨g, cap, cur, rfl, h1, h2, h3⟩
  · exact .inl ⟨rfl, e⟩
  · exact .inr ⟨g, cap, cur, rfl, h1, (hs.2.2 g (fun e => hk (by simp [Value.ownBlock, e]))).trans h2, h3⟩
theorem HOut.own_lt {w0 w : World} {v : Value} {n : Nat} {z : Nat → Int} (h : HOut w0 w v n z []) {b : Nat} (hb : w.heap.size ≤ b) : v.ownBlock ≠ some b := by
  intro e
  rcases h.1.1.2 with ⟨rfl, _⟩ | ⟨g, cap, cur, rfl, h1, h2, h3⟩
  · simp [Value.ownBlock] at e
  · simp [Value.ownBlock] at e
    subst e
    have := (Array.getElem?_eq_some_iff.1 h2).1
    omega
theorem made_out (w : World) : HOut w (w.alloc (.cells #[] 5)) (.slice (some ⟨w.heap.size, 0, none⟩) 0 0) 0 (fun _ => 0) [] :=
  ⟨⟨made_h w w (bself w), fun _ => ⟨Int.le_refl 0, by show (0 : Int) ≤ 255; omega⟩⟩, (bself w).alloc (Nat.le_refl _) _, HKp.nil _, fun p hp => by cases hp⟩
/-- the words of a block while the next one is read -/
def prN (f : Nat → Int) (a i j : Nat) : Nat → Nat := fun x => if x < i then blkN f a x else if x = i then (numZ f (a + 4 * i) j).toNat else 0
theorem prN_0 (f : Nat → Int) (a i x : Nat) : prN f a i 0 x = fsN (blkN f a) i x := by
  unfold prN fsN
  by_cases h : x < i
  · rw [if_pos h, if_pos h]
  · rw [if_neg h, if_neg h]
    split <;> rfl
theorem prN_4 (f : Nat → Int) (a i x : Nat) : prN f a i 4 x = fsN (blkN f a) (i + 1) x := by
  unfold prN fsN
  by_cases h : x < i
  · rw [if_pos h, if_pos (by omega)]
  · rw [if_neg h]
    by_cases e : x = i
    · rw [if_pos e, if_pos (by omega), e]
      rfl
    · rw [if_neg e, if_neg (by omega)]
theorem num_24 (f : Nat → Int) (hf : ∀ j, 0 ≤ f j ∧ f j ≤ 255) (s j : Nat) (hj : j ≤ 3) : (numZ f s j).toNat ≤ 16777215 := by
  have h := numZ_lt f s j hf
  have : (256 : Int) ^ j ≤ 256 ^ 3 := by
    clear h
    rcases (by omega : j = 0 ∨ j = 1 ∨ j = 2 ∨ j = 3) with rfl | rfl | rfl | rfl <;> decide
  have e : (256 : Int) ^ 3 = 16777216 := by decide
  omega
theorem prN_set (f : Nat → Int) (hf : ∀ j, 0 ≤ f j ∧ f j ≤ 255) (a i j p y : Nat) (hi : i < 64) (hp : (numZ f (a + 4 * i) j).toNat = p) (hy : f (a + 4 * i + j) = (y : Int)) : (tqC 64 (prN f a i j)).setIfInBounds i (.int .u64 ((p * 256 + y : Nat) : Int)) = tqC 64 (prN f a i (j + 1)) := by
  refine tq_set 64 _ _ hi _ ?_ fun x hx hne => ?_
  · unfold prN
    rw [if_neg (by omega), if_pos rfl]
    have h := numZ_lt f (a + 4 * i) j hf
    simp only [numZ]
    rw [hy, ← hp]
    omega
  · unfold prN
    by_cases h : x < i
    · rw [if_pos h, if_pos h]
    · rw [if_neg h, if_neg h, if_neg hne, if_neg hne]
theorem fs_16q (B : Nat → Nat) (j : Nat) : fsN B 16 j = fsN (wdN B) 16 j := by
  unfold fsN
  by_cases h : j < 16
  · rw [if_pos h, if_pos h, wd_low _ _ h]
  · rw [if_neg h, if_neg h]
theorem rem_256 (a : Nat) : ((a % 256 : Nat) : Int) = (a : Int) % 256 := by omega
/-- a state while another one is added -/
def adI (s t : H8) (i : Nat) : Nat → Nat := fun j => if j < i then (s.at j + t.at j) % 4294967296 else s.at j
theorem adI_8 (s t : H8) {j : Nat} (hj : j < 8) : adI s t 8 j = (addH s t).at j := by
  unfold adI
  rw [if_pos hj]
  rcases (by omega : j = 0 ∨ j = 1 ∨ j = 2 ∨ j = 3 ∨ j = 4 ∨ j = 5 ∨ j = 6 ∨ j = 7) with rfl | rfl | rfl | rfl | rfl | rfl | rfl | rfl <;> simp only [H8.at, addH]
/-- a state's bytes while a word's are written, from its last one on -/
def dgI (s : H8) (i c : Nat) : Nat → Int := fun q => if q < 4 * i then dgZ s q else if 4 * i + 4 ≤ q + c ∧ q < 4 * i + 4 then dgZ s q else 0
theorem dgI_0 (s : H8) (i j : Nat) : dgI s i 0 j = prtZ s i j := by
  unfold dgI prtZ
  by_cases h : j < 4 * i
  · rw [if_pos h, if_pos h]
  · rw [if_neg h, if_neg h, if_neg (by omega)]
theorem dgI_4 (s : H8) (i j : Nat) : dgI s i 4 j = prtZ s (i + 1) j := by
  unfold dgI prtZ
  by_cases h : j < 4 * i
  · rw [if_pos h, if_pos (by omega)]
  · rw [if_neg h]
    by_cases h2 : j < 4 * i + 4
    · rw [if_pos (by omega), if_pos (by omega)]
    · rw [if_neg (by omega), if_neg (by omega)]
theorem dgI_v (s : H8) {i c x : Nat} (hc : c < 4) (hx : s.at i = x) : dgI s i (c + 1) (4 * i + (3 - c)) = ((qN x c : Nat) : Int) % 256 := by
  unfold dgI
  rw [if_neg (by omega), if_pos (by omega)]
  unfold dgZ putZ
  rw [show (4 * i + (3 - c)) / 4 = i from by omega, show (4 * i + (3 - c)) % 4 = 3 - c from by omega, show 4 - 1 - (3 - c) = c from by omega, hx]
  exact rem_256 _
theorem dgI_o (s : H8) (i c y : Nat) (h : y ≠ 4 * i + (3 - c)) : dgI s i (c + 1) y = dgI s i c y := by
  unfold dgI
  by_cases h1 : y < 4 * i
  · rw [if_pos h1, if_pos h1]
  · rw [if_neg h1, if_neg h1]
    by_cases h2 : 4 * i + 4 ≤ y + c ∧ y < 4 * i + 4
    · rw [if_pos (by omega), if_pos h2]
    · rw [if_neg (by omega), if_neg h2]
theorem Row8.drew {w : World} {b o n : Nat} {z : Nat → Int} (h : Row8 w b o n z) : Row8 w.drew b o n z := h
set_option maxHeartbeats 16000000 in
set_option maxRecDepth 100000 in
theorem rsha_any (A : Option Addr) (n c : Nat) (z : Nat → Int) (w : World) (hR : Rd w A n z) (hA : A = none → n = 0 ∧ c = 0) (hn : n ≤ 140737488352000) :
    Calls Tryd.prog 13 #[.slice A n c] w fun e w' => e = .returned (.agg (bytC 32 (shaZ z n))) ∧ Below w.heap.size w w' := by
  have HR := Lib.hid hR
  have HA := Lib.hid hA
  have HZ := Lib.hid hR.2
  have hT := tot_le n
  have hT2 := tot_lt n
  obtain ⟨T, hTT⟩ : ∃ T, totN n = T := ⟨_, rfl⟩
  rw [hTT] at hT hT2
  obtain ⟨M, hM⟩ : ∃ M, 64 * T = M := ⟨_, rfl⟩
  rw [hM] at hT hT2
  have HM := Lib.hid hM
  have HTT := Lib.hid hTT
  clear hR hA hTT hM
  go_enter Tryd.func13, Tryd.ntmps13
  have HB := Lib.hid (Below.refl w.heap.size w)
  obtain ⟨N1, hN1⟩ : ∃ N, w.heap.size = N := ⟨_, rfl⟩
  have HN1 := Lib.hid hN1
  clear hN1
  go_wp2_with (refine wpList_new (op := ⟨some 2, _, _, _, _, _⟩) rfl 26 rfl (bytC 32 fun _ => 0) zero_d N1 HN1.out ?_; intro w1 k1 b1 s1; refine Hid.out ?_)
  refine Lib.hid ?_
  have KR := Lib.hid k1
  clear k1
  have le_HB_N1 : w.heap.size ≤ N1 := by rw [← HN1.out]; exact HB.out.size
  have HBn := Lib.hid (HB.out.trans (b1.mono HB.out.size))
  clear HB
  have HB := HBn
  clear HBn
  clear b1 HN1
  go_wp2_with fail
  refine (known_any w1).mono ?_
  rintro e w2 ⟨rfl, b1⟩
  have KRn := Lib.hid (KR.out.below b1 KR.out.lt)
  clear KR
  have KR := KRn
  clear KRn
  have HBn := Lib.hid (HB.out.trans (b1.mono HB.out.size))
  clear HB
  have HB := HBn
  clear HBn
  clear b1
  obtain ⟨N3, hN3⟩ : ∃ N, w2.heap.size = N := ⟨_, rfl⟩
  have HN3 := Lib.hid hN3
  clear hN3
  go_wp2_with (refine wpList_new (op := ⟨some 3, _, _, _, _, _⟩) rfl 76 rfl (tabC fun _ => 0) zero_tab N3 HN3.out ?_; intro w3 k1 b1 s1; refine Hid.out ?_)
  refine Lib.hid ?_
  have KK := Lib.hid k1
  clear k1
  have lt_N1_N3 : N1 < N3 := by rw [← HN3.out]; exact KR.out.lt
  have le_HB_N3 : w.heap.size ≤ N3 := by rw [← HN3.out]; exact HB.out.size
  have KRn := Lib.hid (KR.out.below b1 KR.out.lt)
  clear KR
  have KR := KRn
  clear KRn
  have HBn := Lib.hid (HB.out.trans (b1.mono HB.out.size))
  clear HB
  have HB := HBn
  clear HBn
  clear b1 HN3
  go_wp2_with (refine wpList_st rfl 76 (.tmp 3) (.tmp 35) rfl N3 0 rfl (.agg (tabC rootN)) (tabC rootN) rfl rfl (info_tabT _) (tab_one _) KK.out (tab_fit _ _) (C' := tabC rootN) (tab_all _ _) ?_; intro wk1 q1; refine Hid.out ?_)
  refine Lib.hid ?_
  have KRn := Lib.hid (KR.out.far q1 (by omega))
  clear KR
  have KR := KRn
  clear KRn
  have HBn := Lib.hid (HB.out.trans (q1.2.1 _ (by omega)))
  clear HB
  have HB := HBn
  clear HBn
  have KKn : Hid (Blk 76 wk1 N3 (tabC rootN)) := Lib.hid q1.1
  clear KK
  have KK := KKn
  clear KKn q1
  obtain ⟨NH, hNH⟩ : ∃ N, wk1.heap.size = N := ⟨_, rfl⟩
  have HNH := Lib.hid hNH
  clear hNH
  go_wp2_with (refine wpList_b8 (op := ⟨some 36, _, _, _, _, _⟩) rfl _ _ _ _ _ _ _ _ rfl h0N rfl rfl rfl rfl rfl rfl rfl rfl NH HNH.out ?_; intro w11 k1 b1 s1; refine Hid.out ?_)
  refine Lib.hid ?_
  have KH := Lib.hid k1
  clear k1
  have lt_N1_NH : N1 < NH := by rw [← HNH.out]; exact KR.out.lt
  have lt_N3_NH : N3 < NH := by rw [← HNH.out]; exact KK.out.lt
  have le_HB_NH : w.heap.size ≤ NH := by rw [← HNH.out]; exact HB.out.size
  have KRn := Lib.hid (KR.out.below b1 KR.out.lt)
  clear KR
  have KR := KRn
  clear KRn
  have KKn := Lib.hid (KK.out.below b1 KK.out.lt)
  clear KK
  have KK := KKn
  clear KKn
  have HBn := Lib.hid (HB.out.trans (b1.mono HB.out.size))
  clear HB
  have HB := HBn
  clear HBn
  clear b1 HNH
  clear s1
  have HE := Lib.hid (made_out w11)
  have hle0 : NH + 1 ≤ w11.heap.size := KH.out.lt
  have HRE := Lib.hid ((HR.out.below HB.out rfl).below HE.out.2.1 rfl)
  go_wp2_with (at_builtin; refine wpList_hout rfl (.tmp 37) (.tmp 38) rfl rfl HE.out A n c z rfl HRE.out HA.out (by omega) ?_; intro v1 w21 ho; refine Hid.out ?_)
  refine Lib.hid ?_
  have ho1 := ho.zz (z' := z) (fun j hj => by unfold catZ; rw [if_neg (by omega), Nat.sub_zero]) HZ.out
  rw [Nat.zero_add] at ho1
  have HK1 := Lib.hid (ho1.alloc #[.int .u8 128] 5)
  clear ho ho1 HE HRE
  go_wp2_with (at_builtin; refine wpList_hout rfl (.tmp 39) (.tmp 40) rfl rfl HK1.out (some ⟨w21.heap.size, 0, none⟩) 1 1 (fun _ => 128) rfl (hrd_one (HKp.head HK1.out.kp) rfl ⟨by omega, by omega⟩) (fun e => by cases e) (by omega) ?_; intro v2 w22 ho2; refine Hid.out ?_)
  refine Lib.hid ?_
  have ho3 := (ho2.tail).zz (z' := oneZ z n) (fun j hj => by unfold catZ oneZ; by_cases h : j < n; (rw [if_pos h, if_pos h]); (rw [if_neg h, if_neg h, if_pos (by omega)])) (one_bd HZ.out n)
  clear ho2 HK1
  obtain ⟨A2, c2, rfl, _⟩ := ho3.1.shape
  have HO := Lib.hid ho3
  clear ho3
  go_wp2_with fail
  go_loopw [5] (fun t wr => ∃ (k : Nat) (A3 : Option Addr) (c3 : Nat), n + 1 ≤ k ∧ k ≤ M - 8 ∧ t = .slice A3 k c3 ∧ Hid (HOut w11 wr (.slice A3 k c3) k (oneZ z n) [])) (fun t _ => match t with | .slice _ l _ => M - l | _ => 0)
  case atStart => exact ⟨n + 1, A2, c2, by omega, by omega, rfl, HO⟩
  case round => as_aux_lemma =>
    clear HO
    obtain ⟨k, A3, c3, h1, h2, rfl, HO⟩ := hrel
    obtain ⟨r, hr⟩ : ∃ r : Nat, k % 64 = r := ⟨_, rfl⟩
    have hm : (k : Int) % 64 = (r : Int) := by omega
    have HRR := Lib.hid hr
    clear hr
    by_cases hq : r = 56
    rotate_left
    · have hb : ((r : Int) != 56) = true := by simp; omega
      have hk : k < M - 8 := by
        rcases Nat.lt_or_ge k (M - 8) with h | h
        · exact h
        · exfalso
          have e : k = M - 8 := by omega
          have h5 := HM.out
          have h6 := HTT.out
          have h7 := HRR.out
          unfold totN at h6
          omega
      clear hq
      have HK := Lib.hid (HO.out.alloc #[.int .u8 0] 5)
      go_wp2_with (at_builtin; refine wpList_hout rfl (.tmp 46) (.tmp 47) rfl rfl HK.out (some ⟨wr.heap.size, 0, none⟩) 1 1 (fun _ => 0) rfl (hrd_one (HKp.head HK.out.kp) rfl ⟨by omega, by omega⟩) (fun e => by cases e) (by omega) ?_; intro v4 w4 ho4; refine Hid.out ?_)
      refine Lib.hid ?_
      have ho5 := (ho4.tail).zz (z' := oneZ z n) (fun j hj => by unfold catZ oneZ; by_cases h : j < k; (rw [if_pos h]); (rw [if_neg h, if_neg (by omega), if_neg (by omega)])) (one_bd HZ.out n)
      clear ho4 HK HO
      obtain ⟨A5, c5, rfl, _⟩ := ho5.1.shape
      have HO := Lib.hid ho5
      clear ho5
      go_wp2_with fail
      go_roundw
      case rel => exact ⟨k + 1, A5, c5, by omega, by omega, rfl, HO⟩
      case measure => show M - (k + 1) < M - k; omega
    have hb : ((r : Int) != 56) = false := by simp [hq]
    have hk : k = M - 8 := by have h9 := mod_end n k h1 (by rw [HTT.out, HM.out]; exact h2) (HRR.out.trans hq); rw [HTT.out, HM.out] at h9; exact h9
    have HKK := Lib.hid hk
    clear hk hq
    have HC8 : Hid ((8 : Nat) * n = 8 * n) := Lib.hid rfl
    obtain ⟨NT, hNT⟩ : ∃ N, wr.heap.size = N := ⟨_, rfl⟩
    have HNT := Lib.hid hNT
    clear hNT
    go_wp2_with (refine wpList_m8 rfl rfl NT HNT.out ?_; intro wt k1 b1 s1; refine Hid.out ?_)
    refine Lib.hid ?_
    have KT := Lib.hid k1
    have HOn := Lib.hid (HO.out.below b1)
    have HOF : Hid ((Value.slice A3 k c3).ownBlock ≠ some NT) := Lib.hid (HO.out.own_lt (by rw [HNT.out]; exact Nat.le_refl _))
    have hNT0 : w11.heap.size ≤ NT := by rw [← HNT.out]; exact HO.out.le
    clear HO k1 b1 s1
    have HO := HOn
    clear HOn
    clear hm hb
    go_wp2_with fail
    go_loopw [6, 8] (fun vq vi wr => ∃ i : Nat, i ≤ 8 ∧ vi = .int .i64 (7 - (i : Int)) ∧ vq = .int .u64 ((qN (8 * n) i : Nat) : Int) ∧ Hid (Blk 5 wr NT (bytC 8 (partZ (8 * n) 8 i))) ∧ Hid (HOut w11 wr (.slice A3 k c3) k (oneZ z n) [])) (fun _ vi _ => (intOf vi + 1).toNat)
    case atStart => exact ⟨0, by omega, by simp, by rw [qN_0]; first | rfl | (simp; omega) | simp, Lib.hid (by rw [byt_congr (z := partZ (8 * n) 8 0) (y := fun _ => 0) (fun j hj => partZ_0 _ _ j hj)]; exact KT.out), HO⟩
    case round => as_aux_lemma =>
      clear KT HO
      obtain ⟨i, hi, rfl, rfl, KT, HO⟩ := hrel
      by_cases hlt : i < 8
      · skip
        have h0 : (0 : Int) ≤ 7 - (i : Int) := by omega
        obtain ⟨j, hj⟩ : ∃ j, 7 - i = j := ⟨_, rfl⟩
        have hj2 : 7 - (i : Int) = (j : Int) := by omega
        have hj8 : (j : Int) < 8 := by omega
        obtain ⟨q, hq⟩ : ∃ q, qN (8 * n) i = q := ⟨_, rfl⟩
        have hq64 : (q : Int) ≤ 18446744073709551615 := by have := qN_le (8 * n) i; omega
        rw [hq, hj2]
        rw [hj2] at h0
        have HQ := Lib.hid hq
        have HJ := Lib.hid hj
        have hjn : j < 8 := by omega
        clear hq hj hj2
        go_wp2_with (refine wpList_st rfl 5 (.tmp 63) (.tmp 62) rfl NT j rfl (.int .u8 ((q : Int) % 256)) #[.int .u8 ((q : Int) % 256)] rfl rfl info_b1 (one_int _ _) KT.out (by rw [byt_size]; show j + 1 ≤ 8; omega) (C' := bytC 8 (partZ (8 * n) 8 (i + 1))) (byt_put 8 _ _ hjn _ (by rw [← HQ.out, ← partZ_s (8 * n) 8 i hlt, ← HJ.out]; exact (upd_same _ _ _).trans (rem_256 _)) (fun x hx hne => by rw [← partZ_s (8 * n) 8 i hlt]; exact upd_other _ _ _ _ (by have := HJ.out; omega))) ?_; intro w6 q1; refine Hid.out ?_)
        refine Lib.hid ?_
        have KT2 : Hid (Blk 5 w6 NT (bytC 8 (partZ (8 * n) 8 (i + 1)))) := Lib.hid q1.1
        have HO2 := Lib.hid (HO.out.far q1 HOF.out hNT0)
        clear q1 KT HO
        have HQ2 : Hid (qN (8 * n) (i + 1) = q / 256) := Lib.hid (by rw [qN_s, HQ.out])
        have HJ2 : Hid ((j : Int) - 1 = 7 - ((i + 1 : Nat) : Int)) := Lib.hid (by have := HJ.out; omega)
        go_wp2_with fail
        go_roundw
        case rel => exact ⟨i + 1, by omega, by rw [HJ2.out], by rw [HQ2.out]; first | rfl | go_num, KT2, HO2⟩
        case measure => simp only [intOf]; have := HJ2.out; omega
      obtain rfl : i = 8 := by omega
      have KT2 : Hid (Blk 5 wr NT (bytC 8 (putZ (8 * n) 8))) := Lib.hid (by rw [← partZ_all]; exact KT.out)
      clear KT
      go_wp2_with (at_builtin; refine wpList_hout rfl (.tmp 66) (.tmp 67) rfl rfl HO.out (some ⟨NT, 0, none⟩) 8 8 (putZ (8 * n) 8) rfl (blk_rd KT2.out (putZ_bd _ _)) (fun e => by cases e) (by omega) ?_; intro v7 w7 ho7; refine Hid.out ?_)
      refine Lib.hid ?_
      obtain ⟨f, hf⟩ : ∃ f, padZ z n = f := ⟨_, rfl⟩
      have HF := Lib.hid hf
      have HFB : Hid (∀ j, 0 ≤ f j ∧ f j ≤ 255) := Lib.hid (by rw [← hf]; exact pad_bd HZ.out n)
      have ho8 : HOut w11 w7 v7 M f [] := by
        have h8 : k + 8 = M := by rw [HKK.out]; omega
        rw [← h8]
        refine ho7.zz (fun j hj => ?_) HFB.out
        rw [← hf, pad_end, ← end_cat z n n j (by rw [HTT.out, HM.out]; omega), HTT.out, HM.out, ← HKK.out]
      clear hf
      have b1 := ho8.2.1
      obtain ⟨A5, c5, rfl, h51, h52, h53, h54, h55⟩ := ho8.1.shape2
      obtain ⟨b5, o5, rfl, hr5⟩ := h54.row (by omega)
      have HD := Lib.hid hr5
      have hb5 : NH < b5 := by have := h55 _ rfl; have : b5 < b5 + 1 := Nat.lt_succ_self b5; exact Nat.lt_of_lt_of_le hle0 (by first | assumption | exact h55 _ rfl)
      have HM5 := Lib.hid (And.intro h51 h52)
      clear ho7 ho8 h51 h52 h53 h54 h55 hr5 HO HOF KT2 HKK
      have KRn := Lib.hid (KR.out.below b1 KR.out.lt)
      clear KR
      have KR := KRn
      clear KRn
      have KKn := Lib.hid (KK.out.below b1 KK.out.lt)
      clear KK
      have KK := KKn
      clear KKn
      have KHn := Lib.hid (KH.out.below b1 KH.out.lt)
      clear KH
      have KH := KHn
      clear KHn
      have HBn := Lib.hid (HB.out.trans (b1.mono HB.out.size))
      clear HB
      have HB := HBn
      clear HBn
      clear b1
      have KHn : Hid (Blk 78 w7 NH (tqC 8 (foldN f 0).at)) := Lib.hid KH.out
      clear KH
      have KH := KHn
      clear KHn
      go_wp2_with fail
      go_loopw [9] (fun t wr => ∃ k a : Nat, k ≤ T ∧ t = .int .i64 (a : Int) ∧ Hid (64 * k = a) ∧ Hid (Blk 26 wr N1 (bytC 32 fun _ => 0)) ∧ Hid (Blk 76 wr N3 (tabC rootN)) ∧ Hid (Blk 78 wr NH (tqC 8 (foldN f (k)).at)) ∧ Hid (Row8 wr b5 o5 M f) ∧ Hid (Below w.heap.size w wr)) (fun t _ => 64 * T - (intOf t).toNat)
      case atStart => exact ⟨0, 0, by omega, rfl, Lib.hid rfl, KR, KK, KH, HD, HB⟩
      case round => as_aux_lemma =>
        clear KR KK KH HD HB
        obtain ⟨k, a, hk, rfl, HKA, KR, KK, KH, HD, HB⟩ := hrel
        by_cases hlt : k < T
        · skip
          have ham : (a : Int) < (M : Int) := by have := HKA.out; have := HM.out; omega
          have HAM := Lib.hid (show a + 64 ≤ M from by have := HKA.out; have := HM.out; omega)
          obtain ⟨B, hB⟩ : ∃ B, blkN f a = B := ⟨_, rfl⟩
          have HBB := Lib.hid hB
          have HB3 : Hid (∀ i, W32 (B i)) := Lib.hid (by rw [← hB]; exact blk_32 HFB.out a)
          clear hB
          obtain ⟨NW, hNW⟩ : ∃ N, wr.heap.size = N := ⟨_, rfl⟩
          have HNW := Lib.hid hNW
          clear hNW
          go_wp2_with (refine wpList_mq (op := ⟨some 75, _, _, _, _, _⟩) rfl rfl NW HNW.out ?_; intro w101 k1 b1 s1; refine Hid.out ?_)
          refine Lib.hid ?_
          have KW := Lib.hid k1
          clear k1
          have lt_N1_NW : N1 < NW := by rw [← HNW.out]; exact KR.out.lt
          have lt_N3_NW : N3 < NW := by rw [← HNW.out]; exact KK.out.lt
          have lt_NH_NW : NH < NW := by rw [← HNW.out]; exact KH.out.lt
          have lt_b5_NW : b5 < NW := by rw [← HNW.out]; exact HD.out.lt
          have le_HB_NW : w.heap.size ≤ NW := by rw [← HNW.out]; exact HB.out.size
          have KRn := Lib.hid (KR.out.below b1 KR.out.lt)
          clear KR
          have KR := KRn
          clear KRn
          have KKn := Lib.hid (KK.out.below b1 KK.out.lt)
          clear KK
          have KK := KKn
          clear KKn
          have KHn := Lib.hid (KH.out.below b1 KH.out.lt)
          clear KH
          have KH := KHn
          clear KHn
          have HDn := Lib.hid (HD.out.below b1 HD.out.lt)
          clear HD
          have HD := HDn
          clear HDn
          have HBn := Lib.hid (HB.out.trans (b1.mono HB.out.size))
          clear HB
          have HB := HBn
          clear HBn
          clear b1 HNW
          clear s1
          have hbw : b5 < NW := lt_b5_NW
          have hhw : NH < NW := lt_NH_NW
          have hrw : N1 < NW := lt_N1_NW
          have hkw : N3 < NW := lt_N3_NW
          have hww : w.heap.size ≤ NW := le_HB_NW
          clear ham
          go_wp2_with fail
          go_loopw [76] (fun t wr => ∃ i : Nat, i ≤ 16 ∧ t = .int .i64 (i : Int) ∧ Hid (Blk 26 wr N1 (bytC 32 fun _ => 0)) ∧ Hid (Blk 76 wr N3 (tabC rootN)) ∧ Hid (Blk 78 wr NH (tqC 8 (foldN f (k)).at)) ∧ Hid (Row8 wr b5 o5 M f) ∧ Hid (Blk 78 wr NW (tqC 64 (fsN B i))) ∧ Hid (Below w.heap.size w wr)) (fun t _ => 16 - (intOf t).toNat)
          case atStart => exact ⟨0, by omega, rfl, KR, KK, KH, HD, Lib.hid (by rw [show fsN B 0 = fun _ => 0 from by funext j; simp [fsN]]; exact KW.out), HB⟩
          case round => as_aux_lemma =>
            clear KR KK KH HD KW HB
            obtain ⟨i, hi, rfl, KR, KK, KH, HD, KW, HB⟩ := hrel
            by_cases hlt4 : i < 16
            · skip
              go_wp2_with fail
              go_loopw [79] (fun t wr => ∃ j : Nat, j ≤ 4 ∧ t = .int .i64 (j : Int) ∧ Hid (Blk 26 wr N1 (bytC 32 fun _ => 0)) ∧ Hid (Blk 76 wr N3 (tabC rootN)) ∧ Hid (Blk 78 wr NH (tqC 8 (foldN f (k)).at)) ∧ Hid (Row8 wr b5 o5 M f) ∧ Hid (Blk 78 wr NW (tqC 64 (prN f a i j))) ∧ Hid (Below w.heap.size w wr)) (fun t _ => 4 - (intOf t).toNat)
              case atStart => exact ⟨0, by omega, rfl, KR, KK, KH, HD, Lib.hid (by rw [tq_congr (T := prN f a i 0) (T' := fsN B i) (fun j _ => by rw [← HBB.out]; exact prN_0 f a i j)]; exact KW.out), HB⟩
              case round => as_aux_lemma =>
                clear KR KK KH HD KW HB
                obtain ⟨j, hj, rfl, KR, KK, KH, HD, KW, HB⟩ := hrel
                by_cases hlt5 : j < 4
                · skip
                  obtain ⟨p, hp⟩ : ∃ p : Nat, (numZ f (a + 4 * i) j).toNat = p := ⟨_, rfl⟩
                  have hp24 : p ≤ 16777215 := by rw [← hp]; exact num_24 f HFB.out _ _ (by omega)
                  obtain ⟨y, hy⟩ : ∃ y : Nat, (f (a + 4 * i + j)).toNat = y := ⟨_, rfl⟩
                  have hy8 : y ≤ 255 := by have := HFB.out (a + 4 * i + j); omega
                  have hyf : Hid (f (a + 4 * i + j) = (y : Int)) := Lib.hid (by have := HFB.out (a + 4 * i + j); omega)
                  have HP := Lib.hid hp
                  clear hp hy
                  have cw : wr.cell? ⟨NW, i, none⟩ = some (.int .u64 ((p : Nat) : Int)) := (KW.out.cell i).trans (by rw [tq_at _ _ (by omega)]; unfold prN; rw [if_neg (by omega), if_pos rfl, HP.out])
                  obtain ⟨x, hx⟩ : ∃ x : Nat, a + 4 * i + j = x := ⟨_, rfl⟩
                  have hxM : (x : Int) < (M : Int) := by have := HAM.out; omega
                  have hxi : (a : Int) + 4 * (i : Int) + (j : Int) = (x : Int) := by omega
                  have cd : wr.cell? ⟨b5, o5 + x, none⟩ = some (.int .u8 (y : Int)) := by rw [← hyf.out, hx]; exact HD.out.2.1 x (by omega)
                  have HXX := Lib.hid hx
                  clear hx
                  have fz := KW.out.free i
                  have li : (i : Int) < 64 := by omega
                  go_wp2_with fail
                  go_region
                  go_wp2_with fail
                  rw [show (p : Int) * 256 + (y : Int) = ((p * 256 + y : Nat) : Int) from by omega]
                  have qq := set_stored KW.out i (.int .u64 ((p * 256 + y : Nat) : Int)) (tqC 64 (prN f a i (j + 1))) (prN_set f HFB.out a i j p y (by omega) HP.out hyf.out)
                  exact ⟨⟨j + 1, by omega, by simp, Lib.hid (KR.out.far qq (by omega)).drew, Lib.hid (KK.out.far qq (by omega)).drew, Lib.hid (KH.out.far qq (by omega)).drew, Lib.hid (HD.out.far qq (by omega)).drew, Lib.hid (Blk.drew qq.1), Lib.hid (HB.out.trans (qq.2.1 _ (by omega))).drew⟩, by simp [intOf]; omega⟩
                obtain rfl : j = 4 := by omega
                have KWn : Hid (Blk 78 wr NW (tqC 64 (fsN B (i + 1)))) := Lib.hid (by rw [← HBB.out, ← tq_congr (T := prN f a i 4) (fun x _ => prN_4 f a i x)]; exact KW.out)
                clear KW
                have KW := KWn
                clear KWn
                go_wp2_with fail
                go_roundw
                case rel => exact ⟨i + 1, by omega, by go_num, KR, KK, KH, HD, KW, HB⟩
                case measure => simp only [intOf]; omega
            obtain rfl : i = 16 := by omega
            have KWn : Hid (Blk 78 wr NW (tqC 64 (fsN (wdN B) 16))) := Lib.hid (by rw [← tq_congr (T := fsN B 16) (fun j _ => fs_16q B j)]; exact KW.out)
            clear KW
            have KW := KWn
            clear KWn
            go_wp2_with fail
            try rw [show ((8 : Nat) : Int) = 8 from rfl]
            try rw [show ((16 : Nat) : Int) = 16 from rfl]
            try rw [show ((64 : Nat) : Int) = 64 from rfl]
            go_loopw [13] (fun t wr => ∃ i : Nat, 16 ≤ i ∧ i ≤ 64 ∧ t = .int .i64 (i : Int) ∧ Hid (Blk 26 wr N1 (bytC 32 fun _ => 0)) ∧ Hid (Blk 76 wr N3 (tabC rootN)) ∧ Hid (Blk 78 wr NH (tqC 8 (foldN f (k)).at)) ∧ Hid (Row8 wr b5 o5 M f) ∧ Hid (Blk 78 wr NW (tqC 64 (fsN (wdN B) i))) ∧ Hid (Below w.heap.size w wr)) (fun t _ => 64 - (intOf t).toNat)
            case atStart => exact ⟨16, by omega, by omega, rfl, KR, KK, KH, HD, KW, HB⟩
            case round => as_aux_lemma =>
              clear KR KK KH HD KW HB
              obtain ⟨i, h16, hi, rfl, KR, KK, KH, HD, KW, HB⟩ := hrel
              by_cases hlt6 : i < 64
              · skip
                obtain ⟨v16, hv16⟩ : ∃ v, wdN B (i - 16) = v := ⟨_, rfl⟩
                have H16 := Lib.hid (show W32 v16 from by rw [← hv16]; exact wd_32 _ HB3.out _ (by omega))
                obtain ⟨j16, hj16⟩ : ∃ j, i - 16 = j := ⟨_, rfl⟩
                have J16 : (i : Int) - 16 = (j16 : Int) := by omega
                have L16 : j16 < 64 := by omega
                have E16 : Hid ((tqC 64 (fsN (wdN B) i))[j16]? = some (.int .u64 ((v16 : Nat) : Int))) := Lib.hid (by rw [← hj16, tq_at _ _ (by omega), fs_lt _ (by omega), hv16])
                obtain ⟨v15, hv15⟩ : ∃ v, wdN B (i - 15) = v := ⟨_, rfl⟩
                have H15 := Lib.hid (show W32 v15 from by rw [← hv15]; exact wd_32 _ HB3.out _ (by omega))
                obtain ⟨j15, hj15⟩ : ∃ j, i - 15 = j := ⟨_, rfl⟩
                have J15 : (i : Int) - 15 = (j15 : Int) := by omega
                have L15 : j15 < 64 := by omega
                have E15 : Hid ((tqC 64 (fsN (wdN B) i))[j15]? = some (.int .u64 ((v15 : Nat) : Int))) := Lib.hid (by rw [← hj15, tq_at _ _ (by omega), fs_lt _ (by omega), hv15])
                obtain ⟨v7, hv7⟩ : ∃ v, wdN B (i - 7) = v := ⟨_, rfl⟩
                have H7 := Lib.hid (show W32 v7 from by rw [← hv7]; exact wd_32 _ HB3.out _ (by omega))
                obtain ⟨j7, hj7⟩ : ∃ j, i - 7 = j := ⟨_, rfl⟩
                have J7 : (i : Int) - 7 = (j7 : Int) := by omega
                have L7 : j7 < 64 := by omega
                have E7 : Hid ((tqC 64 (fsN (wdN B) i))[j7]? = some (.int .u64 ((v7 : Nat) : Int))) := Lib.hid (by rw [← hj7, tq_at _ _ (by omega), fs_lt _ (by omega), hv7])
                obtain ⟨v2, hv2⟩ : ∃ v, wdN B (i - 2) = v := ⟨_, rfl⟩
                have H2 := Lib.hid (show W32 v2 from by rw [← hv2]; exact wd_32 _ HB3.out _ (by omega))
                obtain ⟨j2, hj2⟩ : ∃ j, i - 2 = j := ⟨_, rfl⟩
                have J2 : (i : Int) - 2 = (j2 : Int) := by omega
                have L2 : j2 < 64 := by omega
                have E2 : Hid ((tqC 64 (fsN (wdN B) i))[j2]? = some (.int .u64 ((v2 : Nat) : Int))) := Lib.hid (by rw [← hj2, tq_at _ _ (by omega), fs_lt _ (by omega), hv2])
                have HN := Lib.hid (show wdN B i = _ from wd_next B i h16 hlt6)
                rw [hv16, hv15, hv7, hv2] at HN
                have HJ := Lib.hid (And.intro J16 (And.intro J15 (And.intro J7 J2)))
                clear hv16 hj16 J16 hv15 hj15 J15 hv7 hj7 J7 hv2 hj2 J2
                go_wp2_with fail
                refine wp_region_held_drew (S := fun w' => Blk 26 w' N1 (bytC 32 fun _ => 0) ∧ Blk 76 w' N3 (tabC rootN) ∧ Blk 78 w' NH (tqC 8 (foldN f (k)).at) ∧ Row8 w' b5 o5 M f ∧ Blk 78 w' NW (tqC 64 (fsN (wdN B) i)) ∧ Below w.heap.size w w') (by kernel_rfl) ⟨KR.out, KK.out, KH.out, HD.out, KW.out, HB.out.drew⟩ (fun hS => ?_)
                generalize hW201 : wr.drew = W201 at hS ⊢
                clear hW201
                clear KR
                clear KK
                clear KH
                clear HD
                clear KW
                clear HB
                have KR := Lib.hid hS.1
                have KK := Lib.hid hS.2.1
                have KH := Lib.hid hS.2.2.1
                have HD := Lib.hid hS.2.2.2.1
                have KW := Lib.hid hS.2.2.2.2.1
                have HB := Lib.hid hS.2.2.2.2.2
                refine takeY (i := 0) (some 107) (v := .slice (some ⟨NW, 0, none⟩) 64 64) rfl rfl (by kernel_rfl) (by kernel_rfl) (by kernel_rfl) (fun _ _ _ h => h) (by rfl) (fun w' hS => by go_simp) hS ?_
                simp only [Act.put, List.setIfInBounds_toArray, List.set_cons_zero, List.set_cons_succ]
                refine takeY (i := 1) (some 108) (v := .int .i64 (i : Int)) rfl rfl (by kernel_rfl) (by kernel_rfl) (by kernel_rfl) (fun _ _ _ h => h) (by rfl) (fun w' hS => by go_simp) hS ?_
                simp only [Act.put, List.setIfInBounds_toArray, List.set_cons_zero, List.set_cons_succ]
                refine takeY (i := 2) (some 109) (v := .int .i64 (j15 : Int)) rfl rfl (by kernel_rfl) (by kernel_rfl) (by kernel_rfl) (fun _ _ _ h => h) (by rfl) (fun w' hS => by exact run_sub64 _ _ _ _ _ _ rfl _ _ _ rfl rfl HJ.out.2.1 (by omega) _) hS ?_
                simp only [Act.put, List.setIfInBounds_toArray, List.set_cons_zero, List.set_cons_succ]
                refine takeY (i := 3) (some 110) (v := .pointer (some ⟨NW, j15, none⟩)) rfl rfl (by kernel_rfl) (by kernel_rfl) (by kernel_rfl) (fun _ _ _ h => h) (by rfl) (fun w' hS => by (have l9 : (j15 : Int) < 64 := (by omega); go_simp)) hS ?_
                simp only [Act.put, List.setIfInBounds_toArray, List.set_cons_zero, List.set_cons_succ]
                refine takeY (i := 4) (some 111) (v := .int .u64 ((v15 : Nat) : Int)) rfl rfl (by kernel_rfl) (by kernel_rfl) (by kernel_rfl) (fun _ _ _ h => h) (by rfl) (fun w' hS => by (have c9 : w'.cell? ⟨NW, j15, none⟩ = some (.int .u64 ((v15 : Nat) : Int)) := (hS.2.2.2.2.1.cell j15).trans E15.out; clear hS; go_simp)) hS ?_
                simp only [Act.put, List.setIfInBounds_toArray, List.set_cons_zero, List.set_cons_succ]
                refine takeY (i := 5) (some 112) (v := .slice (some ⟨NW, 0, none⟩) 64 64) rfl rfl (by kernel_rfl) (by kernel_rfl) (by kernel_rfl) (fun _ _ _ h => h) (by rfl) (fun w' hS => by go_simp) hS ?_
                simp only [Act.put, List.setIfInBounds_toArray, List.set_cons_zero, List.set_cons_succ]
                refine takeY (i := 6) (some 113) (v := .int .i64 (i : Int)) rfl rfl (by kernel_rfl) (by kernel_rfl) (by kernel_rfl) (fun _ _ _ h => h) (by rfl) (fun w' hS => by go_simp) hS ?_
                simp only [Act.put, List.setIfInBounds_toArray, List.set_cons_zero, List.set_cons_succ]
                refine takeY (i := 7) (some 114) (v := .int .i64 (j2 : Int)) rfl rfl (by kernel_rfl) (by kernel_rfl) (by kernel_rfl) (fun _ _ _ h => h) (by rfl) (fun w' hS => by exact run_sub64 _ _ _ _ _ _ rfl _ _ _ rfl rfl HJ.out.2.2.2 (by omega) _) hS ?_
                simp only [Act.put, List.setIfInBounds_toArray, List.set_cons_zero, List.set_cons_succ]
                refine takeY (i := 8) (some 115) (v := .pointer (some ⟨NW, j2, none⟩)) rfl rfl (by kernel_rfl) (by kernel_rfl) (by kernel_rfl) (fun _ _ _ h => h) (by rfl) (fun w' hS => by (have l9 : (j2 : Int) < 64 := (by omega); go_simp)) hS ?_
                simp only [Act.put, List.setIfInBounds_toArray, List.set_cons_zero, List.set_cons_succ]
                refine takeY (i := 9) (some 116) (v := .int .u64 ((v2 : Nat) : Int)) rfl rfl (by kernel_rfl) (by kernel_rfl) (by kernel_rfl) (fun _ _ _ h => h) (by rfl) (fun w' hS => by (have c9 : w'.cell? ⟨NW, j2, none⟩ = some (.int .u64 ((v2 : Nat) : Int)) := (hS.2.2.2.2.1.cell j2).trans E2.out; clear hS; go_simp)) hS ?_
                simp only [Act.put, List.setIfInBounds_toArray, List.set_cons_zero, List.set_cons_succ]
                refine takeY (i := 10) (some 14) (v := .int .u64 ((v15 : Nat) : Int)) rfl rfl (by kernel_rfl) (by kernel_rfl) (by kernel_rfl) (fun _ _ _ h => h) (by rfl) (fun w' hS => by go_simp) hS ?_
                simp only [Act.put, List.setIfInBounds_toArray, List.set_cons_zero, List.set_cons_succ]
                refine takeY (i := 11) (some 15) (v := .int .u64 ((v2 : Nat) : Int)) rfl rfl (by kernel_rfl) (by kernel_rfl) (by kernel_rfl) (fun _ _ _ h => h) (by rfl) (fun w' hS => by go_simp) hS ?_
                simp only [Act.put, List.setIfInBounds_toArray, List.set_cons_zero, List.set_cons_succ]
                clear hS
                refine wpAnyH_done (by kernel_rfl) ?_ _
                go_wp2_with fail
                refine (right7 v15 W201 H15.out).mono ?_
                rintro e w202 ⟨rfl, b1⟩
                have KRn := Lib.hid (KR.out.below b1 KR.out.lt)
                clear KR
                have KR := KRn
                clear KRn
                have KKn := Lib.hid (KK.out.below b1 KK.out.lt)
                clear KK
                have KK := KKn
                clear KKn
                have KHn := Lib.hid (KH.out.below b1 KH.out.lt)
                clear KH
                have KH := KHn
                clear KHn
                have HDn := Lib.hid (HD.out.below b1 HD.out.lt)
                clear HD
                have HD := HDn
                clear HDn
                have KWn := Lib.hid (KW.out.below b1 KW.out.lt)
                clear KW
                have KW := KWn
                clear KWn
                have HBn := Lib.hid (HB.out.trans (b1.mono HB.out.size))
                clear HB
                have HB := HBn
                clear HBn
                clear b1
                go_wp2_with fail
                refine (right18 v15 w202 H15.out).mono ?_
                rintro e w203 ⟨rfl, b1⟩
                have KRn := Lib.hid (KR.out.below b1 KR.out.lt)
                clear KR
                have KR := KRn
                clear KRn
                have KKn := Lib.hid (KK.out.below b1 KK.out.lt)
                clear KK
                have KK := KKn
                clear KKn
                have KHn := Lib.hid (KH.out.below b1 KH.out.lt)
                clear KH
                have KH := KHn
                clear KHn
                have HDn := Lib.hid (HD.out.below b1 HD.out.lt)
                clear HD
                have HD := HDn
                clear HDn
                have KWn := Lib.hid (KW.out.below b1 KW.out.lt)
                clear KW
                have KW := KWn
                clear KWn
                have HBn := Lib.hid (HB.out.trans (b1.mono HB.out.size))
                clear HB
                have HB := HBn
                clear HBn
                clear b1
                go_wp2_with (refine wpList_v (op := ⟨some 121, _, _, _, _, _⟩) rfl _ (run_xorq _ _ _ _ _ _ rfl (rotN v15 7) (rotN v15 18) rfl rfl (w64 (rot_lt H15.out (by omega) (by omega))) (w64 (rot_lt H15.out (by omega) (by omega))) _) ?_; refine Hid.out ?_)
                refine Lib.hid ?_
                go_wp2_with (refine wpList_v (op := ⟨some 123, _, _, _, _, _⟩) rfl _ (run_shrq _ _ _ _ _ 3 rfl 3 rfl (by omega) v15 rfl (fun _ => rfl) _) ?_; refine Hid.out ?_)
                refine Lib.hid ?_
                go_wp2_with (refine wpList_v (op := ⟨some 124, _, _, _, _, _⟩) rfl _ (run_xorq _ _ _ _ _ _ rfl (rotN v15 7 ^^^ rotN v15 18) (v15 / 2 ^ 3) rfl rfl (w64 (xor32 (rot_lt H15.out (by omega) (by omega)) (rot_lt H15.out (by omega) (by omega)))) (w64 (div32 _ H15.out)) _) ?_; refine Hid.out ?_)
                refine Lib.hid ?_
                go_wp2_with fail
                refine (right17 v2 w203 H2.out).mono ?_
                rintro e w204 ⟨rfl, b1⟩
                have KRn := Lib.hid (KR.out.below b1 KR.out.lt)
                clear KR
                have KR := KRn
                clear KRn
                have KKn := Lib.hid (KK.out.below b1 KK.out.lt)
                clear KK
                have KK := KKn
                clear KKn
                have KHn := Lib.hid (KH.out.below b1 KH.out.lt)
                clear KH
                have KH := KHn
                clear KHn
                have HDn := Lib.hid (HD.out.below b1 HD.out.lt)
                clear HD
                have HD := HDn
                clear HDn
                have KWn := Lib.hid (KW.out.below b1 KW.out.lt)
                clear KW
                have KW := KWn
                clear KWn
                have HBn := Lib.hid (HB.out.trans (b1.mono HB.out.size))
                clear HB
                have HB := HBn
                clear HBn
                clear b1
                go_wp2_with fail
                refine (right19 v2 w204 H2.out).mono ?_
                rintro e w205 ⟨rfl, b1⟩
                have KRn := Lib.hid (KR.out.below b1 KR.out.lt)
                clear KR
                have KR := KRn
                clear KRn
                have KKn := Lib.hid (KK.out.below b1 KK.out.lt)
                clear KK
                have KK := KKn
                clear KKn
                have KHn := Lib.hid (KH.out.below b1 KH.out.lt)
                clear KH
                have KH := KHn
                clear KHn
                have HDn := Lib.hid (HD.out.below b1 HD.out.lt)
                clear HD
                have HD := HDn
                clear HDn
                have KWn := Lib.hid (KW.out.below b1 KW.out.lt)
                clear KW
                have KW := KWn
                clear KWn
                have HBn := Lib.hid (HB.out.trans (b1.mono HB.out.size))
                clear HB
                have HB := HBn
                clear HBn
                clear b1
                go_wp2_with (refine wpList_v (op := ⟨some 129, _, _, _, _, _⟩) rfl _ (run_xorq _ _ _ _ _ _ rfl (rotN v2 17) (rotN v2 19) rfl rfl (w64 (rot_lt H2.out (by omega) (by omega))) (w64 (rot_lt H2.out (by omega) (by omega))) _) ?_; refine Hid.out ?_)
                refine Lib.hid ?_
                go_wp2_with (refine wpList_v (op := ⟨some 131, _, _, _, _, _⟩) rfl _ (run_shrq _ _ _ _ _ 10 rfl 10 rfl (by omega) v2 rfl (fun _ => rfl) _) ?_; refine Hid.out ?_)
                refine Lib.hid ?_
                go_wp2_with (refine wpList_v (op := ⟨some 132, _, _, _, _, _⟩) rfl _ (run_xorq _ _ _ _ _ _ rfl (rotN v2 17 ^^^ rotN v2 19) (v2 / 2 ^ 10) rfl rfl (w64 (xor32 (rot_lt H2.out (by omega) (by omega)) (rot_lt H2.out (by omega) (by omega)))) (w64 (div32 _ H2.out)) _) ?_; refine Hid.out ?_)
                refine Lib.hid ?_
                obtain ⟨y0, hy0⟩ : ∃ y, rotN v15 7 ^^^ rotN v15 18 ^^^ v15 / 2 ^ 3 = y := ⟨_, rfl⟩
                obtain ⟨y1, hy1⟩ : ∃ y, rotN v2 17 ^^^ rotN v2 19 ^^^ v2 / 2 ^ 10 = y := ⟨_, rfl⟩
                have by0 : y0 < 4294967296 := by rw [← hy0]; exact xor32 (xor32 (rot_lt H15.out (by omega) (by omega)) (rot_lt H15.out (by omega) (by omega))) (div32 _ H15.out)
                have by1 : y1 < 4294967296 := by rw [← hy1]; exact xor32 (xor32 (rot_lt H2.out (by omega) (by omega)) (rot_lt H2.out (by omega) (by omega))) (div32 _ H2.out)
                have HN2 : Hid (wdN B i = (v16 + y0 + v7 + y1) % 4294967296) := Lib.hid (by rw [HN.out, ← hy0, ← hy1]; rfl)
                rw [hy0, hy1]
                clear hy0 hy1 HN
                have c16 : w205.cell? ⟨NW, j16, none⟩ = some (.int .u64 ((v16 : Nat) : Int)) := (KW.out.cell j16).trans E16.out
                have c7 : w205.cell? ⟨NW, j7, none⟩ = some (.int .u64 ((v7 : Nat) : Int)) := (KW.out.cell j7).trans E7.out
                have fz := KW.out.free i
                have ci : w205.cell? ⟨NW, i, none⟩ = some (.int .u64 ((0 : Nat) : Int)) := (KW.out.cell i).trans (by rw [tq_at _ _ hlt6]; simp [fsN])
                have J16 := HJ.out.1
                have J7 := HJ.out.2.2.1
                have l16 : (j16 : Int) < 64 := by omega
                have l7 : (j7 : Int) < 64 := by omega
                have li : (i : Int) < 64 := by omega
                have b16 : v16 < 4294967296 := H16.out
                have b7 : v7 < 4294967296 := H7.out
                go_wp2_with fail
                go_region
                go_wp2_with fail
                go_roundw
                case rel =>
                  have qq := set_stored KW.out i (.int .u64 ((wdN B i : Nat) : Int)) (tqC 64 (fsN (wdN B) (i + 1))) (tq_set 64 _ _ hlt6 _ (by simp [fsN]) (fun j _ hne => by unfold fsN; by_cases h : j < i; (rw [if_pos h, if_pos (by omega)]); (rw [if_neg h, if_neg (by omega)])))
                  have e9 : (((v16 : Int) + (y0 : Int) + (v7 : Int) + (y1 : Int)) % 4294967296 : Int) = ((wdN B i : Nat) : Int) := by rw [HN2.out]; omega
                  rw [← e9] at qq
                  exact ⟨i + 1, by omega, by omega, by go_num, Lib.hid (KR.out.far qq (by omega)).drew, Lib.hid (KK.out.far qq (by omega)).drew, Lib.hid (KH.out.far qq (by omega)).drew, Lib.hid (HD.out.far qq (by omega)).drew, Lib.hid (Blk.drew qq.1), Lib.hid (HB.out.trans (qq.2.1 _ (by omega))).drew⟩
                case measure => simp only [intOf]; omega
              obtain rfl : i = 64 := by omega
              have KWn : Hid (Blk 78 wr NW (tqC 64 (wdN B))) := Lib.hid (by rw [← tq_congr (T := fsN (wdN B) 64) (fun j hj => fs_lt _ hj)]; exact KW.out)
              clear KW
              have KW := KWn
              clear KWn
              obtain ⟨st, hst⟩ : ∃ s, foldN f k = s := ⟨_, rfl⟩
              have HST := Lib.hid hst
              rw [hst] at KH
              have HSO := Lib.hid (show st.ok from by rw [← hst]; exact fold_ok f k)
              clear hst
              have HWD3 : Hid (∀ i, i < 64 → W32 (wdN B i)) := Lib.hid (wd_32 B HB3.out)
              go_wp2_with fail
              refine wp_region_held_drew (S := fun w' => Blk 26 w' N1 (bytC 32 fun _ => 0) ∧ Blk 76 w' N3 (tabC rootN) ∧ Blk 78 w' NH (tqC 8 st.at) ∧ Row8 w' b5 o5 M f ∧ Blk 78 w' NW (tqC 64 (wdN B)) ∧ Below w.heap.size w w') (by kernel_rfl) ⟨KR.out, KK.out, KH.out, HD.out, KW.out, HB.out.drew⟩ (fun hS => ?_)
              generalize hW301 : wr.drew = W301 at hS ⊢
              clear hW301
              clear KR
              clear KK
              clear KH
              clear HD
              clear KW
              clear HB
              have KR := Lib.hid hS.1
              have KK := Lib.hid hS.2.1
              have KH := Lib.hid hS.2.2.1
              have HD := Lib.hid hS.2.2.2.1
              have KW := Lib.hid hS.2.2.2.2.1
              have HB := Lib.hid hS.2.2.2.2.2
              refine takeY (i := 0) (some 152) (v := .slice (some ⟨NH, 0, none⟩) 8 8) rfl rfl (by kernel_rfl) (by kernel_rfl) (by kernel_rfl) (fun _ _ _ h => h) (by rfl) (fun w' hS => by go_simp) hS ?_
              simp only [Act.put, List.setIfInBounds_toArray, List.set_cons_zero, List.set_cons_succ]
              refine takeY (i := 1) (some 153) (v := .pointer (some ⟨NH, 0, none⟩)) rfl rfl (by kernel_rfl) (by kernel_rfl) (by kernel_rfl) (fun _ _ _ h => h) (by rfl) (fun w' hS => by go_simp) hS ?_
              simp only [Act.put, List.setIfInBounds_toArray, List.set_cons_zero, List.set_cons_succ]
              refine takeY (i := 2) (some 154) (v := .int .u64 ((st.a : Nat) : Int)) rfl rfl (by kernel_rfl) (by kernel_rfl) (by kernel_rfl) (fun _ _ _ h => h) (by rfl) (fun w' hS => by (have c9 : w'.cell? ⟨NH, 0, none⟩ = some (.int .u64 ((st.a : Nat) : Int)) := (hS.2.2.1.cell 0).trans (tq_at 8 _ (by omega)); clear hS; go_simp)) hS ?_
              simp only [Act.put, List.setIfInBounds_toArray, List.set_cons_zero, List.set_cons_succ]
              refine takeY (i := 3) (some 155) (v := .slice (some ⟨NH, 0, none⟩) 8 8) rfl rfl (by kernel_rfl) (by kernel_rfl) (by kernel_rfl) (fun _ _ _ h => h) (by rfl) (fun w' hS => by go_simp) hS ?_
              simp only [Act.put, List.setIfInBounds_toArray, List.set_cons_zero, List.set_cons_succ]
              refine takeY (i := 4) (some 156) (v := .pointer (some ⟨NH, 1, none⟩)) rfl rfl (by kernel_rfl) (by kernel_rfl) (by kernel_rfl) (fun _ _ _ h => h) (by rfl) (fun w' hS => by go_simp) hS ?_
              simp only [Act.put, List.setIfInBounds_toArray, List.set_cons_zero, List.set_cons_succ]
              refine takeY (i := 5) (some 157) (v := .int .u64 ((st.b : Nat) : Int)) rfl rfl (by kernel_rfl) (by kernel_rfl) (by kernel_rfl) (fun _ _ _ h => h) (by rfl) (fun w' hS => by (have c9 : w'.cell? ⟨NH, 1, none⟩ = some (.int .u64 ((st.b : Nat) : Int)) := (hS.2.2.1.cell 1).trans (tq_at 8 _ (by omega)); clear hS; go_simp)) hS ?_
              simp only [Act.put, List.setIfInBounds_toArray, List.set_cons_zero, List.set_cons_succ]
              refine takeY (i := 6) (some 158) (v := .slice (some ⟨NH, 0, none⟩) 8 8) rfl rfl (by kernel_rfl) (by kernel_rfl) (by kernel_rfl) (fun _ _ _ h => h) (by rfl) (fun w' hS => by go_simp) hS ?_
              simp only [Act.put, List.setIfInBounds_toArray, List.set_cons_zero, List.set_cons_succ]
              refine takeY (i := 7) (some 159) (v := .pointer (some ⟨NH, 2, none⟩)) rfl rfl (by kernel_rfl) (by kernel_rfl) (by kernel_rfl) (fun _ _ _ h => h) (by rfl) (fun w' hS => by go_simp) hS ?_
              simp only [Act.put, List.setIfInBounds_toArray, List.set_cons_zero, List.set_cons_succ]
              refine takeY (i := 8) (some 160) (v := .int .u64 ((st.c : Nat) : Int)) rfl rfl (by kernel_rfl) (by kernel_rfl) (by kernel_rfl) (fun _ _ _ h => h) (by rfl) (fun w' hS => by (have c9 : w'.cell? ⟨NH, 2, none⟩ = some (.int .u64 ((st.c : Nat) : Int)) := (hS.2.2.1.cell 2).trans (tq_at 8 _ (by omega)); clear hS; go_simp)) hS ?_
              simp only [Act.put, List.setIfInBounds_toArray, List.set_cons_zero, List.set_cons_succ]
              refine takeY (i := 9) (some 161) (v := .slice (some ⟨NH, 0, none⟩) 8 8) rfl rfl (by kernel_rfl) (by kernel_rfl) (by kernel_rfl) (fun _ _ _ h => h) (by rfl) (fun w' hS => by go_simp) hS ?_
              simp only [Act.put, List.setIfInBounds_toArray, List.set_cons_zero, List.set_cons_succ]
              refine takeY (i := 10) (some 162) (v := .pointer (some ⟨NH, 3, none⟩)) rfl rfl (by kernel_rfl) (by kernel_rfl) (by kernel_rfl) (fun _ _ _ h => h) (by rfl) (fun w' hS => by go_simp) hS ?_
              simp only [Act.put, List.setIfInBounds_toArray, List.set_cons_zero, List.set_cons_succ]
              refine takeY (i := 11) (some 163) (v := .int .u64 ((st.d : Nat) : Int)) rfl rfl (by kernel_rfl) (by kernel_rfl) (by kernel_rfl) (fun _ _ _ h => h) (by rfl) (fun w' hS => by (have c9 : w'.cell? ⟨NH, 3, none⟩ = some (.int .u64 ((st.d : Nat) : Int)) := (hS.2.2.1.cell 3).trans (tq_at 8 _ (by omega)); clear hS; go_simp)) hS ?_
              simp only [Act.put, List.setIfInBounds_toArray, List.set_cons_zero, List.set_cons_succ]
              refine takeY (i := 12) (some 164) (v := .slice (some ⟨NH, 0, none⟩) 8 8) rfl rfl (by kernel_rfl) (by kernel_rfl) (by kernel_rfl) (fun _ _ _ h => h) (by rfl) (fun w' hS => by go_simp) hS ?_
              simp only [Act.put, List.setIfInBounds_toArray, List.set_cons_zero, List.set_cons_succ]
              refine takeY (i := 13) (some 165) (v := .pointer (some ⟨NH, 4, none⟩)) rfl rfl (by kernel_rfl) (by kernel_rfl) (by kernel_rfl) (fun _ _ _ h => h) (by rfl) (fun w' hS => by go_simp) hS ?_
              simp only [Act.put, List.setIfInBounds_toArray, List.set_cons_zero, List.set_cons_succ]
              refine takeY (i := 14) (some 166) (v := .int .u64 ((st.e : Nat) : Int)) rfl rfl (by kernel_rfl) (by kernel_rfl) (by kernel_rfl) (fun _ _ _ h => h) (by rfl) (fun w' hS => by (have c9 : w'.cell? ⟨NH, 4, none⟩ = some (.int .u64 ((st.e : Nat) : Int)) := (hS.2.2.1.cell 4).trans (tq_at 8 _ (by omega)); clear hS; go_simp)) hS ?_
              simp only [Act.put, List.setIfInBounds_toArray, List.set_cons_zero, List.set_cons_succ]
              refine takeY (i := 15) (some 167) (v := .slice (some ⟨NH, 0, none⟩) 8 8) rfl rfl (by kernel_rfl) (by kernel_rfl) (by kernel_rfl) (fun _ _ _ h => h) (by rfl) (fun w' hS => by go_simp) hS ?_
              simp only [Act.put, List.setIfInBounds_toArray, List.set_cons_zero, List.set_cons_succ]
              refine takeY (i := 16) (some 168) (v := .pointer (some ⟨NH, 5, none⟩)) rfl rfl (by kernel_rfl) (by kernel_rfl) (by kernel_rfl) (fun _ _ _ h => h) (by rfl) (fun w' hS => by go_simp) hS ?_
              simp only [Act.put, List.setIfInBounds_toArray, List.set_cons_zero, List.set_cons_succ]
              refine takeY (i := 17) (some 169) (v := .int .u64 ((st.f : Nat) : Int)) rfl rfl (by kernel_rfl) (by kernel_rfl) (by kernel_rfl) (fun _ _ _ h => h) (by rfl) (fun w' hS => by (have c9 : w'.cell? ⟨NH, 5, none⟩ = some (.int .u64 ((st.f : Nat) : Int)) := (hS.2.2.1.cell 5).trans (tq_at 8 _ (by omega)); clear hS; go_simp)) hS ?_
              simp only [Act.put, List.setIfInBounds_toArray, List.set_cons_zero, List.set_cons_succ]
              refine takeY (i := 18) (some 170) (v := .slice (some ⟨NH, 0, none⟩) 8 8) rfl rfl (by kernel_rfl) (by kernel_rfl) (by kernel_rfl) (fun _ _ _ h => h) (by rfl) (fun w' hS => by go_simp) hS ?_
              simp only [Act.put, List.setIfInBounds_toArray, List.set_cons_zero, List.set_cons_succ]
              refine takeY (i := 19) (some 171) (v := .pointer (some ⟨NH, 6, none⟩)) rfl rfl (by kernel_rfl) (by kernel_rfl) (by kernel_rfl) (fun _ _ _ h => h) (by rfl) (fun w' hS => by go_simp) hS ?_
              simp only [Act.put, List.setIfInBounds_toArray, List.set_cons_zero, List.set_cons_succ]
              refine takeY (i := 20) (some 172) (v := .int .u64 ((st.g : Nat) : Int)) rfl rfl (by kernel_rfl) (by kernel_rfl) (by kernel_rfl) (fun _ _ _ h => h) (by rfl) (fun w' hS => by (have c9 : w'.cell? ⟨NH, 6, none⟩ = some (.int .u64 ((st.g : Nat) : Int)) := (hS.2.2.1.cell 6).trans (tq_at 8 _ (by omega)); clear hS; go_simp)) hS ?_
              simp only [Act.put, List.setIfInBounds_toArray, List.set_cons_zero, List.set_cons_succ]
              refine takeY (i := 21) (some 173) (v := .slice (some ⟨NH, 0, none⟩) 8 8) rfl rfl (by kernel_rfl) (by kernel_rfl) (by kernel_rfl) (fun _ _ _ h => h) (by rfl) (fun w' hS => by go_simp) hS ?_
              simp only [Act.put, List.setIfInBounds_toArray, List.set_cons_zero, List.set_cons_succ]
              refine takeY (i := 22) (some 174) (v := .pointer (some ⟨NH, 7, none⟩)) rfl rfl (by kernel_rfl) (by kernel_rfl) (by kernel_rfl) (fun _ _ _ h => h) (by rfl) (fun w' hS => by go_simp) hS ?_
              simp only [Act.put, List.setIfInBounds_toArray, List.set_cons_zero, List.set_cons_succ]
              refine takeY (i := 23) (some 175) (v := .int .u64 ((st.h : Nat) : Int)) rfl rfl (by kernel_rfl) (by kernel_rfl) (by kernel_rfl) (fun _ _ _ h => h) (by rfl) (fun w' hS => by (have c9 : w'.cell? ⟨NH, 7, none⟩ = some (.int .u64 ((st.h : Nat) : Int)) := (hS.2.2.1.cell 7).trans (tq_at 8 _ (by omega)); clear hS; go_simp)) hS ?_
              simp only [Act.put, List.setIfInBounds_toArray, List.set_cons_zero, List.set_cons_succ]
              refine takeY (i := 24) (some 18) (v := .int .u64 ((st.a : Nat) : Int)) rfl rfl (by kernel_rfl) (by kernel_rfl) (by kernel_rfl) (fun _ _ _ h => h) (by rfl) (fun w' hS => by go_simp) hS ?_
              simp only [Act.put, List.setIfInBounds_toArray, List.set_cons_zero, List.set_cons_succ]
              refine takeY (i := 25) (some 19) (v := .int .u64 ((st.b : Nat) : Int)) rfl rfl (by kernel_rfl) (by kernel_rfl) (by kernel_rfl) (fun _ _ _ h => h) (by rfl) (fun w' hS => by go_simp) hS ?_
              simp only [Act.put, List.setIfInBounds_toArray, List.set_cons_zero, List.set_cons_succ]
              refine takeY (i := 26) (some 20) (v := .int .u64 ((st.c : Nat) : Int)) rfl rfl (by kernel_rfl) (by kernel_rfl) (by kernel_rfl) (fun _ _ _ h => h) (by rfl) (fun w' hS => by go_simp) hS ?_
              simp only [Act.put, List.setIfInBounds_toArray, List.set_cons_zero, List.set_cons_succ]
              refine takeY (i := 27) (some 21) (v := .int .u64 ((st.d : Nat) : Int)) rfl rfl (by kernel_rfl) (by kernel_rfl) (by kernel_rfl) (fun _ _ _ h => h) (by rfl) (fun w' hS => by go_simp) hS ?_
              simp only [Act.put, List.setIfInBounds_toArray, List.set_cons_zero, List.set_cons_succ]
              refine takeY (i := 28) (some 22) (v := .int .u64 ((st.e : Nat) : Int)) rfl rfl (by kernel_rfl) (by kernel_rfl) (by kernel_rfl) (fun _ _ _ h => h) (by rfl) (fun w' hS => by go_simp) hS ?_
              simp only [Act.put, List.setIfInBounds_toArray, List.set_cons_zero, List.set_cons_succ]
              refine takeY (i := 29) (some 23) (v := .int .u64 ((st.f : Nat) : Int)) rfl rfl (by kernel_rfl) (by kernel_rfl) (by kernel_rfl) (fun _ _ _ h => h) (by rfl) (fun w' hS => by go_simp) hS ?_
              simp only [Act.put, List.setIfInBounds_toArray, List.set_cons_zero, List.set_cons_succ]
              refine takeY (i := 30) (some 24) (v := .int .u64 ((st.g : Nat) : Int)) rfl rfl (by kernel_rfl) (by kernel_rfl) (by kernel_rfl) (fun _ _ _ h => h) (by rfl) (fun w' hS => by go_simp) hS ?_
              simp only [Act.put, List.setIfInBounds_toArray, List.set_cons_zero, List.set_cons_succ]
              refine takeY (i := 31) (some 25) (v := .int .u64 ((st.h : Nat) : Int)) rfl rfl (by kernel_rfl) (by kernel_rfl) (by kernel_rfl) (fun _ _ _ h => h) (by rfl) (fun w' hS => by go_simp) hS ?_
              simp only [Act.put, List.setIfInBounds_toArray, List.set_cons_zero, List.set_cons_succ]
              clear hS
              refine wpAnyH_done (by kernel_rfl) ?_ _
              go_wp2_with fail
              try rw [show ((64 : Nat) : Int) = 64 from rfl]
              try rw [show ((16 : Nat) : Int) = 16 from rfl]
              go_loopw [18, 19, 20, 21, 22, 23, 24, 25, 176] (fun va vb vc vd ve vf vg vh t wr => ∃ (i : Nat) (x : H8), i ≤ 64 ∧ t = .int .i64 (i : Int) ∧ Hid (rdN rootN (wdN B) st i = x) ∧ va = .int .u64 ((x.a : Nat) : Int) ∧ vb = .int .u64 ((x.b : Nat) : Int) ∧ vc = .int .u64 ((x.c : Nat) : Int) ∧ vd = .int .u64 ((x.d : Nat) : Int) ∧ ve = .int .u64 ((x.e : Nat) : Int) ∧ vf = .int .u64 ((x.f : Nat) : Int) ∧ vg = .int .u64 ((x.g : Nat) : Int) ∧ vh = .int .u64 ((x.h : Nat) : Int) ∧ Hid (Blk 26 wr N1 (bytC 32 fun _ => 0)) ∧ Hid (Blk 76 wr N3 (tabC rootN)) ∧ Hid (Blk 78 wr NH (tqC 8 st.at)) ∧ Hid (Row8 wr b5 o5 M f) ∧ Hid (Blk 78 wr NW (tqC 64 (wdN B))) ∧ Hid (Below w.heap.size w wr)) (fun _ _ _ _ _ _ _ _ t _ => 64 - (intOf t).toNat)
              case atStart => exact ⟨0, st, by omega, rfl, Lib.hid rfl, rfl, rfl, rfl, rfl, rfl, rfl, rfl, rfl, KR, KK, KH, HD, KW, HB⟩
              case round => as_aux_lemma =>
                clear KR KK KH HD KW HB
                obtain ⟨i, x, hi, rfl, HX, rfl, rfl, rfl, rfl, rfl, rfl, rfl, rfl, KR, KK, KH, HD, KW, HB⟩ := hrel
                have HO : Hid x.ok := Lib.hid (by rw [← HX.out]; exact rd_ok _ _ HSO.out i)
                by_cases hlt7 : i < 64
                · skip
                  obtain ⟨k9, hk9⟩ : ∃ k, rootN i = k := ⟨_, rfl⟩
                  obtain ⟨w9, hw9⟩ : ∃ k, wdN B i = k := ⟨_, rfl⟩
                  have HK3 := Lib.hid (show W32 k9 from by rw [← hk9]; exact root_32 i)
                  have HV3 := Lib.hid (show W32 w9 from by rw [← hw9]; exact HWD3.out i hlt7)
                  have HK := Lib.hid hk9
                  have HV := Lib.hid hw9
                  clear hk9 hw9
                  obtain ⟨xa, xb, xc, xd, xe, xf, xg, xh⟩ := x
                  obtain ⟨⟨oa, ob, oc, od⟩, oe, of1, og, oh⟩ := HO.out
                  have Hoa : Hid (W32 xa) := Lib.hid oa
                  have Hob : Hid (W32 xb) := Lib.hid ob
                  have Hoc : Hid (W32 xc) := Lib.hid oc
                  have Hod : Hid (W32 xd) := Lib.hid od
                  have Hoe : Hid (W32 xe) := Lib.hid oe
                  have Hof1 : Hid (W32 xf) := Lib.hid of1
                  have Hog : Hid (W32 xg) := Lib.hid og
                  have Hoh : Hid (W32 xh) := Lib.hid oh
                  clear oa ob oc od oe of1 og oh HO
                  go_wp2_with fail
                  refine wp_region_held_drew (S := fun w' => Blk 26 w' N1 (bytC 32 fun _ => 0) ∧ Blk 76 w' N3 (tabC rootN) ∧ Blk 78 w' NH (tqC 8 st.at) ∧ Row8 w' b5 o5 M f ∧ Blk 78 w' NW (tqC 64 (wdN B)) ∧ Below w.heap.size w w') (by kernel_rfl) ⟨KR.out, KK.out, KH.out, HD.out, KW.out, HB.out.drew⟩ (fun hS => ?_)
                  generalize hW401 : wr.drew = W401 at hS ⊢
                  clear hW401
                  clear KR
                  clear KK
                  clear KH
                  clear HD
                  clear KW
                  clear HB
                  have KR := Lib.hid hS.1
                  have KK := Lib.hid hS.2.1
                  have KH := Lib.hid hS.2.2.1
                  have HD := Lib.hid hS.2.2.2.1
                  have KW := Lib.hid hS.2.2.2.2.1
                  have HB := Lib.hid hS.2.2.2.2.2
                  refine takeY (i := 0) (some 179) (v := .int .u64 ((xh : Nat) : Int)) rfl rfl (by kernel_rfl) (by kernel_rfl) (by kernel_rfl) (fun _ _ _ h => h) (by rfl) (fun w' hS => by go_simp) hS ?_
                  simp only [Act.put, List.setIfInBounds_toArray, List.set_cons_zero, List.set_cons_succ]
                  refine takeY (i := 1) (some 180) (v := .int .u64 ((xe : Nat) : Int)) rfl rfl (by kernel_rfl) (by kernel_rfl) (by kernel_rfl) (fun _ _ _ h => h) (by rfl) (fun w' hS => by go_simp) hS ?_
                  simp only [Act.put, List.setIfInBounds_toArray, List.set_cons_zero, List.set_cons_succ]
                  refine takeY (i := 3) (some 182) (v := .int .u64 ((xe : Nat) : Int)) rfl rfl (by kernel_rfl) (by kernel_rfl) (by kernel_rfl) (fun _ _ _ h => h) (by rfl) (fun w' hS => by go_simp) hS ?_
                  simp only [Act.put, List.setIfInBounds_toArray, List.set_cons_zero, List.set_cons_succ]
                  refine takeY (i := 6) (some 185) (v := .int .u64 ((xe : Nat) : Int)) rfl rfl (by kernel_rfl) (by kernel_rfl) (by kernel_rfl) (fun _ _ _ h => h) (by rfl) (fun w' hS => by go_simp) hS ?_
                  simp only [Act.put, List.setIfInBounds_toArray, List.set_cons_zero, List.set_cons_succ]
                  refine takeY (i := 10) (some 189) (v := .int .u64 ((xe : Nat) : Int)) rfl rfl (by kernel_rfl) (by kernel_rfl) (by kernel_rfl) (fun _ _ _ h => h) (by rfl) (fun w' hS => by go_simp) hS ?_
                  simp only [Act.put, List.setIfInBounds_toArray, List.set_cons_zero, List.set_cons_succ]
                  refine takeY (i := 11) (some 190) (v := .int .u64 ((xf : Nat) : Int)) rfl rfl (by kernel_rfl) (by kernel_rfl) (by kernel_rfl) (fun _ _ _ h => h) (by rfl) (fun w' hS => by go_simp) hS ?_
                  simp only [Act.put, List.setIfInBounds_toArray, List.set_cons_zero, List.set_cons_succ]
                  refine takeY (i := 12) (some 191) (v := .int .u64 ((xe &&& xf : Nat) : Int)) rfl rfl (by kernel_rfl) (by kernel_rfl) (by kernel_rfl) (fun _ _ _ h => h) (by rfl) (fun w' hS => by exact run_andq _ _ _ _ _ _ rfl _ _ rfl rfl (w64 Hoe.out) (w64 Hof1.out) _) hS ?_
                  simp only [Act.put, List.setIfInBounds_toArray, List.set_cons_zero, List.set_cons_succ]
                  refine takeY (i := 13) (some 192) (v := .int .u64 ((xe : Nat) : Int)) rfl rfl (by kernel_rfl) (by kernel_rfl) (by kernel_rfl) (fun _ _ _ h => h) (by rfl) (fun w' hS => by go_simp) hS ?_
                  simp only [Act.put, List.setIfInBounds_toArray, List.set_cons_zero, List.set_cons_succ]
                  refine takeY (i := 14) (some 193) (v := .int .u64 ((4294967295 - xe : Nat) : Int)) rfl rfl (by kernel_rfl) (by kernel_rfl) (by kernel_rfl) (fun _ _ _ h => h) (by rfl) (fun w' hS => by exact run_subq _ _ _ _ _ _ rfl (fun _ => rfl) 4294967295 xe _ rfl rfl (by have := Hoe.out; unfold W32 at this; omega) (by unfold W64; omega) rfl _) hS ?_
                  simp only [Act.put, List.setIfInBounds_toArray, List.set_cons_zero, List.set_cons_succ]
                  refine takeY (i := 15) (some 194) (v := .int .u64 ((xg : Nat) : Int)) rfl rfl (by kernel_rfl) (by kernel_rfl) (by kernel_rfl) (fun _ _ _ h => h) (by rfl) (fun w' hS => by go_simp) hS ?_
                  simp only [Act.put, List.setIfInBounds_toArray, List.set_cons_zero, List.set_cons_succ]
                  refine takeY (i := 16) (some 195) (v := .int .u64 (((4294967295 - xe) &&& xg : Nat) : Int)) rfl rfl (by kernel_rfl) (by kernel_rfl) (by kernel_rfl) (fun _ _ _ h => h) (by rfl) (fun w' hS => by exact run_andq _ _ _ _ _ _ rfl _ _ rfl rfl (w64 (not32 _)) (w64 Hog.out) _) hS ?_
                  simp only [Act.put, List.setIfInBounds_toArray, List.set_cons_zero, List.set_cons_succ]
                  refine takeY (i := 17) (some 196) (v := .int .u64 ((chN xe xf xg : Nat) : Int)) rfl rfl (by kernel_rfl) (by kernel_rfl) (by kernel_rfl) (fun _ _ _ h => h) (by rfl) (fun w' hS => by exact run_xorq _ _ _ _ _ _ rfl _ _ rfl rfl (w64 (and32 _ Hoe.out)) (w64 (and32 _ (not32 _))) _) hS ?_
                  simp only [Act.put, List.setIfInBounds_toArray, List.set_cons_zero, List.set_cons_succ]
                  refine takeY (i := 19) (some 198) (v := .int .i64 (i : Int)) rfl rfl (by kernel_rfl) (by kernel_rfl) (by kernel_rfl) (fun _ _ _ h => h) (by rfl) (fun w' hS => by go_simp) hS ?_
                  simp only [Act.put, List.setIfInBounds_toArray, List.set_cons_zero, List.set_cons_succ]
                  refine takeY (i := 20) (some 199) (v := .pointer (some ⟨N3, i, none⟩)) rfl rfl (by kernel_rfl) (by kernel_rfl) (by kernel_rfl) (fun _ _ _ h => h) (by rfl) (fun w' hS => by (have l9 : (i : Int) < 64 := (by omega); go_simp)) hS ?_
                  simp only [Act.put, List.setIfInBounds_toArray, List.set_cons_zero, List.set_cons_succ]
                  refine takeY (i := 21) (some 200) (v := .int .u32 ((k9 : Nat) : Int)) rfl rfl (by kernel_rfl) (by kernel_rfl) (by kernel_rfl) (fun _ _ _ h => h) (by rfl) (fun w' hS => by (have c9 : w'.cell? ⟨N3, i, none⟩ = some (.int .u32 ((k9 : Nat) : Int)) := (hS.2.1.cell i).trans (by rw [tab_at _ hlt7, HK.out]); clear hS; go_simp)) hS ?_
                  simp only [Act.put, List.setIfInBounds_toArray, List.set_cons_zero, List.set_cons_succ]
                  refine takeY (i := 22) (some 201) (v := .int .u64 ((k9 : Nat) : Int)) rfl rfl (by kernel_rfl) (by kernel_rfl) (by kernel_rfl) (fun _ _ _ h => h) (by rfl) (fun w' hS => by (have b9 : k9 < 4294967296 := HK3.out; go_simp; rw [IntKind.wrap_u64]; omega)) hS ?_
                  simp only [Act.put, List.setIfInBounds_toArray, List.set_cons_zero, List.set_cons_succ]
                  refine takeY (i := 24) (some 203) (v := .slice (some ⟨NW, 0, none⟩) 64 64) rfl rfl (by kernel_rfl) (by kernel_rfl) (by kernel_rfl) (fun _ _ _ h => h) (by rfl) (fun w' hS => by go_simp) hS ?_
                  simp only [Act.put, List.setIfInBounds_toArray, List.set_cons_zero, List.set_cons_succ]
                  refine takeY (i := 25) (some 204) (v := .int .i64 (i : Int)) rfl rfl (by kernel_rfl) (by kernel_rfl) (by kernel_rfl) (fun _ _ _ h => h) (by rfl) (fun w' hS => by go_simp) hS ?_
                  simp only [Act.put, List.setIfInBounds_toArray, List.set_cons_zero, List.set_cons_succ]
                  refine takeY (i := 26) (some 205) (v := .pointer (some ⟨NW, i, none⟩)) rfl rfl (by kernel_rfl) (by kernel_rfl) (by kernel_rfl) (fun _ _ _ h => h) (by rfl) (fun w' hS => by (have l9 : (i : Int) < 64 := (by omega); go_simp)) hS ?_
                  simp only [Act.put, List.setIfInBounds_toArray, List.set_cons_zero, List.set_cons_succ]
                  refine takeY (i := 27) (some 206) (v := .int .u64 ((w9 : Nat) : Int)) rfl rfl (by kernel_rfl) (by kernel_rfl) (by kernel_rfl) (fun _ _ _ h => h) (by rfl) (fun w' hS => by (have c9 : w'.cell? ⟨NW, i, none⟩ = some (.int .u64 ((w9 : Nat) : Int)) := (hS.2.2.2.2.1.cell i).trans (by rw [tq_at _ _ hlt7, HV.out]); clear hS; go_simp)) hS ?_
                  simp only [Act.put, List.setIfInBounds_toArray, List.set_cons_zero, List.set_cons_succ]
                  refine takeC (i := 2) (some 181) 34 #[.int .u64 ((xe : Nat) : Int), .int .i64 6] (.int .u64 ((rotN xe 6 : Nat) : Int)) (R := fun w' => Below W401.heap.size W401 w') rfl rfl (by kernel_rfl) (by rfl) (by go_simp) (right6 xe W401 Hoe.out) (fun w' hb => ⟨hS.1.below hb hS.1.lt, hS.2.1.below hb hS.2.1.lt, hS.2.2.1.below hb hS.2.2.1.lt, hS.2.2.2.1.below hb hS.2.2.2.1.lt, hS.2.2.2.2.1.below hb hS.2.2.2.2.1.lt, hS.2.2.2.2.2.trans (hb.mono hS.2.2.2.2.2.size)⟩) (fun W402 hb1 hS2 => ?_)
                  simp only [Act.put, List.setIfInBounds_toArray, List.set_cons_zero, List.set_cons_succ]
                  clear KR
                  clear KK
                  clear KH
                  clear HD
                  clear KW
                  clear HB
                  clear hS hb1
                  have hS := hS2
                  clear hS2
                  have KR := Lib.hid hS.1
                  have KK := Lib.hid hS.2.1
                  have KH := Lib.hid hS.2.2.1
                  have HD := Lib.hid hS.2.2.2.1
                  have KW := Lib.hid hS.2.2.2.2.1
                  have HB := Lib.hid hS.2.2.2.2.2
                  refine takeC (i := 4) (some 183) 34 #[.int .u64 ((xe : Nat) : Int), .int .i64 11] (.int .u64 ((rotN xe 11 : Nat) : Int)) (R := fun w' => Below W402.heap.size W402 w') rfl rfl (by kernel_rfl) (by rfl) (by go_simp) (right11 xe W402 Hoe.out) (fun w' hb => ⟨hS.1.below hb hS.1.lt, hS.2.1.below hb hS.2.1.lt, hS.2.2.1.below hb hS.2.2.1.lt, hS.2.2.2.1.below hb hS.2.2.2.1.lt, hS.2.2.2.2.1.below hb hS.2.2.2.2.1.lt, hS.2.2.2.2.2.trans (hb.mono hS.2.2.2.2.2.size)⟩) (fun W403 hb1 hS2 => ?_)
                  simp only [Act.put, List.setIfInBounds_toArray, List.set_cons_zero, List.set_cons_succ]
                  clear KR
                  clear KK
                  clear KH
                  clear HD
                  clear KW
                  clear HB
                  clear hS hb1
                  have hS := hS2
                  clear hS2
                  have KR := Lib.hid hS.1
                  have KK := Lib.hid hS.2.1
                  have KH := Lib.hid hS.2.2.1
                  have HD := Lib.hid hS.2.2.2.1
                  have KW := Lib.hid hS.2.2.2.2.1
                  have HB := Lib.hid hS.2.2.2.2.2
                  refine takeY (i := 5) (some 184) (v := .int .u64 ((rotN xe 6 ^^^ rotN xe 11 : Nat) : Int)) rfl rfl (by kernel_rfl) (by kernel_rfl) (by kernel_rfl) (fun _ _ _ h => h) (by rfl) (fun w' hS => by exact run_xorq _ _ _ _ _ _ rfl _ _ rfl rfl (w64 (rot_lt Hoe.out (by omega) (by omega))) (w64 (rot_lt Hoe.out (by omega) (by omega))) _) hS ?_
                  simp only [Act.put, List.setIfInBounds_toArray, List.set_cons_zero, List.set_cons_succ]
                  refine takeC (i := 7) (some 186) 34 #[.int .u64 ((xe : Nat) : Int), .int .i64 25] (.int .u64 ((rotN xe 25 : Nat) : Int)) (R := fun w' => Below W403.heap.size W403 w') rfl rfl (by kernel_rfl) (by rfl) (by go_simp) (right25 xe W403 Hoe.out) (fun w' hb => ⟨hS.1.below hb hS.1.lt, hS.2.1.below hb hS.2.1.lt, hS.2.2.1.below hb hS.2.2.1.lt, hS.2.2.2.1.below hb hS.2.2.2.1.lt, hS.2.2.2.2.1.below hb hS.2.2.2.2.1.lt, hS.2.2.2.2.2.trans (hb.mono hS.2.2.2.2.2.size)⟩) (fun W404 hb1 hS2 => ?_)
                  simp only [Act.put, List.setIfInBounds_toArray, List.set_cons_zero, List.set_cons_succ]
                  clear KR
                  clear KK
                  clear KH
                  clear HD
                  clear KW
                  clear HB
                  clear hS hb1
                  have hS := hS2
                  clear hS2
                  have KR := Lib.hid hS.1
                  have KK := Lib.hid hS.2.1
                  have KH := Lib.hid hS.2.2.1
                  have HD := Lib.hid hS.2.2.2.1
                  have KW := Lib.hid hS.2.2.2.2.1
                  have HB := Lib.hid hS.2.2.2.2.2
                  have HSE : Hid (W32 (sgE xe)) := Lib.hid (xor32 (xor32 (rot_lt Hoe.out (by omega) (by omega)) (rot_lt Hoe.out (by omega) (by omega))) (rot_lt Hoe.out (by omega) (by omega)))
                  have HCH : Hid (W32 (chN xe xf xg)) := Lib.hid (xor32 (and32 _ Hoe.out) (and32 _ (not32 _)))
                  refine takeY (i := 8) (some 187) (v := .int .u64 ((sgE xe : Nat) : Int)) rfl rfl (by kernel_rfl) (by kernel_rfl) (by kernel_rfl) (fun _ _ _ h => h) (by rfl) (fun w' hS => by exact run_xorq _ _ _ _ _ _ rfl _ _ rfl rfl (w64 (xor32 (rot_lt Hoe.out (by omega) (by omega)) (rot_lt Hoe.out (by omega) (by omega)))) (w64 (rot_lt Hoe.out (by omega) (by omega))) _) hS ?_
                  simp only [Act.put, List.setIfInBounds_toArray, List.set_cons_zero, List.set_cons_succ]
                  refine takeY (i := 9) (some 188) (v := .int .u64 ((xh + sgE xe : Nat) : Int)) rfl rfl (by kernel_rfl) (by kernel_rfl) (by kernel_rfl) (fun _ _ _ h => h) (by rfl) (fun w' hS => by exact run_addq _ _ _ _ _ _ rfl _ _ _ rfl rfl rfl (by have h1 := Hoh.out; have h2 := HSE.out; have h3 := HCH.out; have h4 := HK3.out; have h5 := HV3.out; unfold W32 at h1 h2 h3 h4 h5; unfold W64; omega) _) hS ?_
                  simp only [Act.put, List.setIfInBounds_toArray, List.set_cons_zero, List.set_cons_succ]
                  refine takeY (i := 18) (some 197) (v := .int .u64 ((xh + sgE xe + chN xe xf xg : Nat) : Int)) rfl rfl (by kernel_rfl) (by kernel_rfl) (by kernel_rfl) (fun _ _ _ h => h) (by rfl) (fun w' hS => by exact run_addq _ _ _ _ _ _ rfl _ _ _ rfl rfl rfl (by have h1 := Hoh.out; have h2 := HSE.out; have h3 := HCH.out; have h4 := HK3.out; have h5 := HV3.out; unfold W32 at h1 h2 h3 h4 h5; unfold W64; omega) _) hS ?_
                  simp only [Act.put, List.setIfInBounds_toArray, List.set_cons_zero, List.set_cons_succ]
                  refine takeY (i := 23) (some 202) (v := .int .u64 ((xh + sgE xe + chN xe xf xg + k9 : Nat) : Int)) rfl rfl (by kernel_rfl) (by kernel_rfl) (by kernel_rfl) (fun _ _ _ h => h) (by rfl) (fun w' hS => by exact run_addq _ _ _ _ _ _ rfl _ _ _ rfl rfl rfl (by have h1 := Hoh.out; have h2 := HSE.out; have h3 := HCH.out; have h4 := HK3.out; have h5 := HV3.out; unfold W32 at h1 h2 h3 h4 h5; unfold W64; omega) _) hS ?_
                  simp only [Act.put, List.setIfInBounds_toArray, List.set_cons_zero, List.set_cons_succ]
                  refine takeY (i := 28) (some 207) (v := .int .u64 ((xh + sgE xe + chN xe xf xg + k9 + w9 : Nat) : Int)) rfl rfl (by kernel_rfl) (by kernel_rfl) (by kernel_rfl) (fun _ _ _ h => h) (by rfl) (fun w' hS => by exact run_addq _ _ _ _ _ _ rfl _ _ _ rfl rfl rfl (by have h1 := Hoh.out; have h2 := HSE.out; have h3 := HCH.out; have h4 := HK3.out; have h5 := HV3.out; unfold W32 at h1 h2 h3 h4 h5; unfold W64; omega) _) hS ?_
                  simp only [Act.put, List.setIfInBounds_toArray, List.set_cons_zero, List.set_cons_succ]
                  refine takeY (i := 29) (some 208) (v := .int .u64 ((t1N ⟨xa, xb, xc, xd, xe, xf, xg, xh⟩ k9 w9 : Nat) : Int)) rfl rfl (by kernel_rfl) (by kernel_rfl) (by kernel_rfl) (fun _ _ _ h => h) (by rfl) (fun w' hS => by exact run_remq _ _ _ _ _ rfl (fun _ => rfl) _ rfl _) hS ?_
                  simp only [Act.put, List.setIfInBounds_toArray, List.set_cons_zero, List.set_cons_succ]
                  refine takeY (i := 30) (some 27) (v := .int .u64 ((t1N ⟨xa, xb, xc, xd, xe, xf, xg, xh⟩ k9 w9 : Nat) : Int)) rfl rfl (by kernel_rfl) (by kernel_rfl) (by kernel_rfl) (fun _ _ _ h => h) (by rfl) (fun w' hS => by go_simp) hS ?_
                  simp only [Act.put, List.setIfInBounds_toArray, List.set_cons_zero, List.set_cons_succ]
                  clear hS
                  refine wpAnyH_done (by kernel_rfl) ?_ _
                  obtain ⟨t1, ht1⟩ : ∃ t, t1N ⟨xa, xb, xc, xd, xe, xf, xg, xh⟩ k9 w9 = t := ⟨_, rfl⟩
                  have HT1 := Lib.hid ht1
                  have HT13 := Lib.hid (show W32 t1 from by rw [← ht1]; exact mod32 _)
                  rw [ht1]
                  clear ht1 HSE HCH
                  go_wp2_with fail
                  refine (right2 xa W404 Hoa.out).mono ?_
                  rintro e w405 ⟨rfl, b1⟩
                  have KRn := Lib.hid (KR.out.below b1 KR.out.lt)
                  clear KR
                  have KR := KRn
                  clear KRn
                  have KKn := Lib.hid (KK.out.below b1 KK.out.lt)
                  clear KK
                  have KK := KKn
                  clear KKn
                  have KHn := Lib.hid (KH.out.below b1 KH.out.lt)
                  clear KH
                  have KH := KHn
                  clear KHn
                  have HDn := Lib.hid (HD.out.below b1 HD.out.lt)
                  clear HD
                  have HD := HDn
                  clear HDn
                  have KWn := Lib.hid (KW.out.below b1 KW.out.lt)
                  clear KW
                  have KW := KWn
                  clear KWn
                  have HBn := Lib.hid (HB.out.trans (b1.mono HB.out.size))
                  clear HB
                  have HB := HBn
                  clear HBn
                  clear b1
                  go_wp2_with fail
                  refine (right13 xa w405 Hoa.out).mono ?_
                  rintro e w406 ⟨rfl, b1⟩
                  have KRn := Lib.hid (KR.out.below b1 KR.out.lt)
                  clear KR
                  have KR := KRn
                  clear KRn
                  have KKn := Lib.hid (KK.out.below b1 KK.out.lt)
                  clear KK
                  have KK := KKn
                  clear KKn
                  have KHn := Lib.hid (KH.out.below b1 KH.out.lt)
                  clear KH
                  have KH := KHn
                  clear KHn
                  have HDn := Lib.hid (HD.out.below b1 HD.out.lt)
                  clear HD
                  have HD := HDn
                  clear HDn
                  have KWn := Lib.hid (KW.out.below b1 KW.out.lt)
                  clear KW
                  have KW := KWn
                  clear KWn
                  have HBn := Lib.hid (HB.out.trans (b1.mono HB.out.size))
                  clear HB
                  have HB := HBn
                  clear HBn
                  clear b1
                  go_wp2_with (refine wpList_v (op := ⟨some 213, _, _, _, _, _⟩) rfl _ (run_xorq _ _ _ _ _ _ rfl (rotN xa 2) (rotN xa 13) rfl rfl (w64 (rot_lt Hoa.out (by omega) (by omega))) (w64 (rot_lt Hoa.out (by omega) (by omega))) _) ?_; refine Hid.out ?_)
                  refine Lib.hid ?_
                  go_wp2_with fail
                  refine (right22 xa w406 Hoa.out).mono ?_
                  rintro e w407 ⟨rfl, b1⟩
                  have KRn := Lib.hid (KR.out.below b1 KR.out.lt)
                  clear KR
                  have KR := KRn
                  clear KRn
                  have KKn := Lib.hid (KK.out.below b1 KK.out.lt)
                  clear KK
                  have KK := KKn
                  clear KKn
                  have KHn := Lib.hid (KH.out.below b1 KH.out.lt)
                  clear KH
                  have KH := KHn
                  clear KHn
                  have HDn := Lib.hid (HD.out.below b1 HD.out.lt)
                  clear HD
                  have HD := HDn
                  clear HDn
                  have KWn := Lib.hid (KW.out.below b1 KW.out.lt)
                  clear KW
                  have KW := KWn
                  clear KWn
                  have HBn := Lib.hid (HB.out.trans (b1.mono HB.out.size))
                  clear HB
                  have HB := HBn
                  clear HBn
                  clear b1
                  go_wp2_with (refine wpList_v (op := ⟨some 216, _, _, _, _, _⟩) rfl _ (run_xorq _ _ _ _ _ _ rfl (rotN xa 2 ^^^ rotN xa 13) (rotN xa 22) rfl rfl (w64 (xor32 (rot_lt Hoa.out (by omega) (by omega)) (rot_lt Hoa.out (by omega) (by omega)))) (w64 (rot_lt Hoa.out (by omega) (by omega))) _) ?_; refine Hid.out ?_)
                  refine Lib.hid ?_
                  go_wp2_with (refine wpList_v (op := ⟨some 219, _, _, _, _, _⟩) rfl _ (run_andq _ _ _ _ _ _ rfl xa xb rfl rfl (w64 Hoa.out) (w64 Hob.out) _) ?_; refine Hid.out ?_)
                  refine Lib.hid ?_
                  go_wp2_with (refine wpList_v (op := ⟨some 222, _, _, _, _, _⟩) rfl _ (run_andq _ _ _ _ _ _ rfl xa xc rfl rfl (w64 Hoa.out) (w64 Hoc.out) _) ?_; refine Hid.out ?_)
                  refine Lib.hid ?_
                  go_wp2_with (refine wpList_v (op := ⟨some 223, _, _, _, _, _⟩) rfl _ (run_xorq _ _ _ _ _ _ rfl (xa &&& xb) (xa &&& xc) rfl rfl (w64 (and32 _ Hoa.out)) (w64 (and32 _ Hoa.out)) _) ?_; refine Hid.out ?_)
                  refine Lib.hid ?_
                  go_wp2_with (refine wpList_v (op := ⟨some 226, _, _, _, _, _⟩) rfl _ (run_andq _ _ _ _ _ _ rfl xb xc rfl rfl (w64 Hob.out) (w64 Hoc.out) _) ?_; refine Hid.out ?_)
                  refine Lib.hid ?_
                  go_wp2_with (refine wpList_v (op := ⟨some 227, _, _, _, _, _⟩) rfl _ (run_xorq _ _ _ _ _ _ rfl ((xa &&& xb) ^^^ (xa &&& xc)) (xb &&& xc) rfl rfl (w64 (xor32 (and32 _ Hoa.out) (and32 _ Hoa.out))) (w64 (and32 _ Hob.out)) _) ?_; refine Hid.out ?_)
                  refine Lib.hid ?_
                  have HSA : Hid (W32 (sgA xa)) := Lib.hid (xor32 (xor32 (rot_lt Hoa.out (by omega) (by omega)) (rot_lt Hoa.out (by omega) (by omega))) (rot_lt Hoa.out (by omega) (by omega)))
                  have HMJ : Hid (W32 (mjN xa xb xc)) := Lib.hid (xor32 (xor32 (and32 _ Hoa.out) (and32 _ Hoa.out)) (and32 _ Hob.out))
                  obtain ⟨z1, hz1⟩ : ∃ t, sgA xa + mjN xa xb xc = t := ⟨_, rfl⟩
                  have Az1 := Lib.hid hz1
                  clear hz1
                  obtain ⟨t2, ht2⟩ : ∃ t, z1 % 4294967296 = t := ⟨_, rfl⟩
                  have At2 := Lib.hid ht2
                  clear ht2
                  obtain ⟨z2, hz2⟩ : ∃ t, xd + t1 = t := ⟨_, rfl⟩
                  have Az2 := Lib.hid hz2
                  clear hz2
                  obtain ⟨n1, hn1⟩ : ∃ t, z2 % 4294967296 = t := ⟨_, rfl⟩
                  have An1 := Lib.hid hn1
                  clear hn1
                  obtain ⟨z3, hz3⟩ : ∃ t, t1 + t2 = t := ⟨_, rfl⟩
                  have Az3 := Lib.hid hz3
                  clear hz3
                  obtain ⟨n2, hn2⟩ : ∃ t, z3 % 4294967296 = t := ⟨_, rfl⟩
                  have An2 := Lib.hid hn2
                  clear hn2
                  have HT23 := Lib.hid (show W32 t2 from by rw [← At2.out]; exact mod32 _)
                  go_wp2_with (refine wpList_v (op := ⟨some 228, _, _, _, _, _⟩) rfl _ (run_addq _ _ _ _ _ _ rfl (sgA xa) (mjN xa xb xc) z1 rfl rfl Az1.out (by have h1 := HSA.out; have h2 := HMJ.out; have h3 := Az1.out; unfold W32 at h1 h2; unfold W64; omega) _) ?_; refine Hid.out ?_)
                  refine Lib.hid ?_
                  go_wp2_with (refine wpList_v (op := ⟨some 229, _, _, _, _, _⟩) rfl _ (run_remn _ _ _ _ _ rfl (fun _ => rfl) z1 t2 rfl At2.out _) ?_; refine Hid.out ?_)
                  refine Lib.hid ?_
                  go_wp2_with (refine wpList_v (op := ⟨some 235, _, _, _, _, _⟩) rfl _ (run_addq _ _ _ _ _ _ rfl xd t1 z2 rfl rfl Az2.out (by have h1 := Hod.out; have h2 := HT13.out; have h3 := Az2.out; unfold W32 at h1 h2; unfold W64; omega) _) ?_; refine Hid.out ?_)
                  refine Lib.hid ?_
                  go_wp2_with (refine wpList_v (op := ⟨some 236, _, _, _, _, _⟩) rfl _ (run_remn _ _ _ _ _ rfl (fun _ => rfl) z2 n1 rfl An1.out _) ?_; refine Hid.out ?_)
                  refine Lib.hid ?_
                  go_wp2_with (refine wpList_v (op := ⟨some 242, _, _, _, _, _⟩) rfl _ (run_addq _ _ _ _ _ _ rfl t1 t2 z3 rfl rfl Az3.out (by have h1 := HT23.out; have h2 := HT13.out; have h3 := Az3.out; unfold W32 at h1 h2; unfold W64; omega) _) ?_; refine Hid.out ?_)
                  refine Lib.hid ?_
                  go_wp2_with (refine wpList_v (op := ⟨some 243, _, _, _, _, _⟩) rfl _ (run_remn _ _ _ _ _ rfl (fun _ => rfl) z3 n2 rfl An2.out _) ?_; refine Hid.out ?_)
                  refine Lib.hid ?_
                  go_wp2_with fail
                  have HXn : Hid (rdN rootN (wdN B) st (i + 1) = ⟨n2, xa, xb, xc, n1, xe, xf, xg⟩) := Lib.hid (by show stp (rdN rootN (wdN B) st i) (rootN i) (wdN B i) = _; rw [HX.out, HK.out, HV.out]; unfold stp; rw [HT1.out, show t2N ⟨xa, xb, xc, xd, xe, xf, xg, xh⟩ = t2 from by unfold t2N; show (sgA xa + mjN xa xb xc) % 4294967296 = t2; rw [Az1.out, At2.out]]; show H8.mk ((t1 + t2) % 4294967296) xa xb xc ((xd + t1) % 4294967296) xe xf xg = _; rw [Az3.out, An2.out, Az2.out, An1.out])
                  go_roundw
                  case rel => exact ⟨i + 1, _, by omega, by go_num, HXn, rfl, rfl, rfl, rfl, rfl, rfl, rfl, rfl, KR, KK, KH, HD, KW, HB⟩
                  case measure => simp only [intOf]; omega
                obtain rfl : i = 64 := by omega
                have HXF : Hid (foldN f (k + 1) = addH st x) := Lib.hid (by show mixN (foldN f k) (blkN f (64 * k)) = _; rw [HST.out, HKA.out, HBB.out]; unfold mixN; rw [HX.out])
                have HXO := HO
                obtain ⟨NB, hNB⟩ : ∃ N, wr.heap.size = N := ⟨_, rfl⟩
                have HNB := Lib.hid hNB
                clear hNB
                go_wp2_with (refine wpList_b8 (op := ⟨some 253, _, _, _, _, _⟩) rfl _ _ _ _ _ _ _ _ rfl x rfl rfl rfl rfl rfl rfl rfl rfl NB HNB.out ?_; intro w501 k1 b1 s1; refine Hid.out ?_)
                refine Lib.hid ?_
                have KB := Lib.hid k1
                clear k1
                have lt_N1_NB : N1 < NB := by rw [← HNB.out]; exact KR.out.lt
                have lt_N3_NB : N3 < NB := by rw [← HNB.out]; exact KK.out.lt
                have lt_NH_NB : NH < NB := by rw [← HNB.out]; exact KH.out.lt
                have lt_b5_NB : b5 < NB := by rw [← HNB.out]; exact HD.out.lt
                have lt_NW_NB : NW < NB := by rw [← HNB.out]; exact KW.out.lt
                have le_HB_NB : w.heap.size ≤ NB := by rw [← HNB.out]; exact HB.out.size
                have KRn := Lib.hid (KR.out.below b1 KR.out.lt)
                clear KR
                have KR := KRn
                clear KRn
                have KKn := Lib.hid (KK.out.below b1 KK.out.lt)
                clear KK
                have KK := KKn
                clear KKn
                have KHn := Lib.hid (KH.out.below b1 KH.out.lt)
                clear KH
                have KH := KHn
                clear KHn
                have HDn := Lib.hid (HD.out.below b1 HD.out.lt)
                clear HD
                have HD := HDn
                clear HDn
                have KWn := Lib.hid (KW.out.below b1 KW.out.lt)
                clear KW
                have KW := KWn
                clear KWn
                have HBn := Lib.hid (HB.out.trans (b1.mono HB.out.size))
                clear HB
                have HB := HBn
                clear HBn
                clear b1 HNB
                clear s1
                have hhb : NH < NB := lt_NH_NB
                have hdb : b5 < NB := lt_b5_NB
                go_wp2_with fail
                go_loopw [255] (fun t wr => ∃ i : Nat, i ≤ 8 ∧ t = .int .i64 (i : Int) ∧ Hid (Blk 26 wr N1 (bytC 32 fun _ => 0)) ∧ Hid (Blk 76 wr N3 (tabC rootN)) ∧ Hid (Blk 78 wr NH (tqC 8 (adI st x i))) ∧ Hid (Row8 wr b5 o5 M f) ∧ Hid (Blk 78 wr NB (tqC 8 x.at)) ∧ Hid (Below w.heap.size w wr)) (fun t _ => 8 - (intOf t).toNat)
                case atStart => exact ⟨0, by omega, rfl, KR, KK, Lib.hid (by rw [tq_congr (T := adI st x 0) (T' := st.at) (fun j _ => if_neg (by omega))]; exact KH.out), HD, KB, HB⟩
                case round => as_aux_lemma =>
                  clear KR KK KH HD KW KB HB
                  obtain ⟨i, hi8, rfl, KR, KK, KH, HD, KB, HB⟩ := hrel
                  by_cases hlt8 : i < 8
                  · skip
                    obtain ⟨p, hp⟩ : ∃ p, st.at i = p := ⟨_, rfl⟩
                    obtain ⟨y, hy⟩ : ∃ y, x.at i = y := ⟨_, rfl⟩
                    have HP3 := Lib.hid (show W32 p from by rw [← hp]; exact H8.at_32 HSO.out i)
                    have HY3 := Lib.hid (show W32 y from by rw [← hy]; exact H8.at_32 HXO.out i)
                    have cB : wr.cell? ⟨NB, i, none⟩ = some (.int .u64 ((y : Nat) : Int)) := (KB.out.cell i).trans (by rw [tq_at _ _ hlt8, hy])
                    have cH : wr.cell? ⟨NH, i, none⟩ = some (.int .u64 ((p : Nat) : Int)) := (KH.out.cell i).trans (by rw [tq_at _ _ hlt8]; unfold adI; rw [if_neg (by omega), hp])
                    have HPY := Lib.hid (show (st.at i + x.at i) % 4294967296 = (p + y) % 4294967296 from by rw [hp, hy])
                    clear hp hy
                    have li : (i : Int) < 8 := by omega
                    obtain ⟨z4, hz4⟩ : ∃ t, p + y = t := ⟨_, rfl⟩
                    obtain ⟨n4, hn4⟩ : ∃ t, z4 % 4294967296 = t := ⟨_, rfl⟩
                    have HZ4 := Lib.hid hz4
                    have HN4 := Lib.hid hn4
                    have HPN : Hid ((st.at i + x.at i) % 4294967296 = n4) := Lib.hid (by rw [HPY.out, hz4, hn4])
                    clear hz4 hn4
                    go_wp2_with (refine wpList_v (op := ⟨some 267, _, _, _, _, _⟩) rfl _ (run_addq _ _ _ _ _ _ rfl p y z4 rfl rfl HZ4.out (by have h9 := HZ4.out; have h1 := HP3.out; have h2 := HY3.out; unfold W32 at h1 h2; unfold W64; omega) _) ?_; refine Hid.out ?_)
                    refine Lib.hid ?_
                    go_wp2_with (refine wpList_v (op := ⟨some 268, _, _, _, _, _⟩) rfl _ (run_remn _ _ _ _ _ rfl (fun _ => rfl) z4 n4 rfl HN4.out _) ?_; refine Hid.out ?_)
                    refine Lib.hid ?_
                    clear cB cH
                    go_wp2_with (refine wpList_st rfl 78 (.tmp 269) (.tmp 268) rfl NH i rfl (.int .u64 ((n4 : Nat) : Int)) #[.int .u64 ((n4 : Nat) : Int)] rfl rfl info_u64s (one_int _ _) KH.out (by rw [tq_size]; show i + 1 ≤ 8; omega) (C' := tqC 8 (adI st x (i + 1))) (tq_set 8 _ _ hlt8 _ (by unfold adI; rw [if_pos (by omega)]; exact HPN.out) (fun j _ hne => by unfold adI; by_cases h : j < i; (rw [if_pos h, if_pos (by omega)]); (rw [if_neg h, if_neg (by omega)]))) ?_; intro w7x q1; refine Hid.out ?_)
                    refine Lib.hid ?_
                    have KRn := Lib.hid (KR.out.far q1 (by omega))
                    clear KR
                    have KR := KRn
                    clear KRn
                    have KKn := Lib.hid (KK.out.far q1 (by omega))
                    clear KK
                    have KK := KKn
                    clear KKn
                    have HDn := Lib.hid (HD.out.far q1 (by omega))
                    clear HD
                    have HD := HDn
                    clear HDn
                    have KBn := Lib.hid (KB.out.far q1 (by omega))
                    clear KB
                    have KB := KBn
                    clear KBn
                    have HBn := Lib.hid (HB.out.trans (q1.2.1 _ (by omega)))
                    clear HB
                    have HB := HBn
                    clear HBn
                    have KHn : Hid (Blk 78 w7x NH (tqC 8 (adI st x (i + 1)))) := Lib.hid q1.1
                    clear KH
                    have KH := KHn
                    clear KHn q1
                    go_wp2_with fail
                    go_roundw
                    case rel => exact ⟨i + 1, by omega, by go_num, KR, KK, KH, HD, KB, HB⟩
                    case measure => simp only [intOf]; omega
                  obtain rfl : i = 8 := by omega
                  have KHn : Hid (Blk 78 wr NH (tqC 8 (foldN f (k + 1)).at)) := Lib.hid (by rw [HXF.out, ← tq_congr (T := adI st x 8) (fun j hj => adI_8 st x hj)]; exact KH.out)
                  clear KH
                  have KH := KHn
                  clear KHn
                  have ha9 : (a : Int) ≤ 140737488360000 := by have := HKA.out; have := HM.out; omega
                  go_wp2_with fail
                  go_roundw
                  case rel => exact ⟨k + 1, a + 64, by omega, by go_num, Lib.hid (by have := HKA.out; omega), KR, KK, KH, HD, HB⟩
                  case measure => simp only [intOf]; have := HKA.out; omega
        obtain rfl : k = T := by omega
        have hna : ¬ (a : Int) < (M : Int) := by have := HKA.out; have := HM.out; omega
        obtain ⟨st, hst⟩ : ∃ s, foldN f k = s := ⟨_, rfl⟩
        have HSX : Hid (shaZ z n = dgZ st) := Lib.hid (by unfold shaZ shaH; rw [HF.out, HTT.out, hst])
        rw [hst] at KH
        have HSO := Lib.hid (show st.ok from by rw [← hst]; exact fold_ok f k)
        clear hst
        obtain ⟨N701, hN701⟩ : ∃ N, wr.heap.size = N := ⟨_, rfl⟩
        have HN701 := Lib.hid hN701
        clear hN701
        go_wp2_with (refine wpList_new (op := ⟨some 31, _, _, _, _, _⟩) rfl 26 rfl (bytC 32 fun _ => 0) zero_d N701 HN701.out ?_; intro w701 k1 b1 s1; refine Hid.out ?_)
        refine Lib.hid ?_
        have KO := Lib.hid k1
        clear k1
        have lt_N1_N701 : N1 < N701 := by rw [← HN701.out]; exact KR.out.lt
        have lt_NH_N701 : NH < N701 := by rw [← HN701.out]; exact KH.out.lt
        have le_HB_N701 : w.heap.size ≤ N701 := by rw [← HN701.out]; exact HB.out.size
        have KRn := Lib.hid (KR.out.below b1 KR.out.lt)
        clear KR
        have KR := KRn
        clear KRn
        have KHn := Lib.hid (KH.out.below b1 KH.out.lt)
        clear KH
        have KH := KHn
        clear KHn
        have HBn := Lib.hid (HB.out.trans (b1.mono HB.out.size))
        clear HB
        have HB := HBn
        clear HBn
        clear b1 HN701
        have hro : N1 < N701 := lt_N1_N701
        have hho : NH < N701 := lt_NH_N701
        have hwo : w.heap.size ≤ N701 := le_HB_N701
        clear hna
        go_wp2_with fail
        go_loopw [273] (fun t wr => ∃ i : Nat, i ≤ 8 ∧ t = .int .i64 (i : Int) ∧ Hid (Blk 26 wr N1 (bytC 32 fun _ => 0)) ∧ Hid (Blk 78 wr NH (tqC 8 st.at)) ∧ Hid (Blk 26 wr N701 (bytC 32 (prtZ st i))) ∧ Hid (Below w.heap.size w wr)) (fun t _ => 8 - (intOf t).toNat)
        case atStart => exact ⟨0, by omega, rfl, KR, KH, Lib.hid (by rw [show prtZ st 0 = fun _ => 0 from by funext j; simp [prtZ]]; exact KO.out), HB⟩
        case round => as_aux_lemma =>
          clear KR KH KO HB HD KK
          obtain ⟨i, hi, rfl, KR, KH, KO, HB⟩ := hrel
          by_cases hlt9 : i < 8
          · skip
            obtain ⟨x, hx⟩ : ∃ x, st.at i = x := ⟨_, rfl⟩
            have hx32 : x < 4294967296 := by rw [← hx]; exact H8.at_32 HSO.out i
            have cH : wr.cell? ⟨NH, i, none⟩ = some (.int .u64 ((x : Nat) : Int)) := (KH.out.cell i).trans (by rw [tq_at _ _ hlt9, hx])
            have HXX := Lib.hid hx
            clear hx
            have li : (i : Int) < 8 := by omega
            go_wp2_with fail
            go_loopw [33, 34] (fun vx vj wr => ∃ c : Nat, c ≤ 4 ∧ vj = .int .i64 (3 - (c : Int)) ∧ vx = .int .u64 ((qN x c : Nat) : Int) ∧ Hid (Blk 26 wr N1 (bytC 32 fun _ => 0)) ∧ Hid (Blk 78 wr NH (tqC 8 st.at)) ∧ Hid (Blk 26 wr N701 (bytC 32 (dgI st i c))) ∧ Hid (Below w.heap.size w wr)) (fun _ vj _ => (intOf vj + 1).toNat)
            case atStart => exact ⟨0, by omega, by simp, by rw [qN_0], KR, KH, Lib.hid (by rw [byt_congr (z := dgI st i 0) (y := prtZ st i) (fun j _ => dgI_0 st i j)]; exact KO.out), HB⟩
            case round => as_aux_lemma =>
              clear KR KH KO HB cH
              obtain ⟨c, hc, rfl, rfl, KR, KH, KO, HB⟩ := hrel
              by_cases hlt10 : c < 4
              · skip
                have h0 : (0 : Int) ≤ 3 - (c : Int) := by omega
                obtain ⟨j, hj⟩ : ∃ j, 3 - c = j := ⟨_, rfl⟩
                have hj2 : 3 - (c : Int) = (j : Int) := by omega
                obtain ⟨p, hp⟩ : ∃ p, 4 * i + j = p := ⟨_, rfl⟩
                have hp2 : 4 * (i : Int) + (j : Int) = (p : Int) := by omega
                have hp32 : (p : Int) < 32 := by omega
                obtain ⟨q, hq⟩ : ∃ q, qN x c = q := ⟨_, rfl⟩
                have hq64 : (q : Int) ≤ 18446744073709551615 := by have := qN_le x c; omega
                rw [hq, hj2]
                rw [hj2] at h0
                have HQ := Lib.hid hq
                have HJ := Lib.hid (And.intro hj hp)
                have hpn : p < 32 := by omega
                have HPV : Hid (dgI st i (c + 1) p = (q : Int) % 256) := Lib.hid (by rw [← hp, ← hj, ← hq]; exact dgI_v st hlt10 HXX.out)
                clear hq hj hj2 hp
                go_wp2_with (refine wpList_st rfl 5 (.tmp 289) (.tmp 288) rfl N701 p rfl (.int .u8 ((q : Int) % 256)) #[.int .u8 ((q : Int) % 256)] rfl rfl info_b1 (one_int _ _) KO.out (by rw [byt_size]; show p + 1 ≤ 32; omega) (C' := bytC 32 (dgI st i (c + 1))) (byt_put 32 _ _ hpn _ HPV.out (fun y _ hne => dgI_o st i c y (by have := HJ.out; omega))) ?_; intro w8x q1; refine Hid.out ?_)
                refine Lib.hid ?_
                have KRn := Lib.hid (KR.out.far q1 (by omega))
                clear KR
                have KR := KRn
                clear KRn
                have KHn := Lib.hid (KH.out.far q1 (by omega))
                clear KH
                have KH := KHn
                clear KHn
                have HBn := Lib.hid (HB.out.trans (q1.2.1 _ (by omega)))
                clear HB
                have HB := HBn
                clear HBn
                have KOn : Hid (Blk 26 w8x N701 (bytC 32 (dgI st i (c + 1)))) := Lib.hid q1.1
                clear KO
                have KO := KOn
                clear KOn q1
                have HQ2 : Hid (qN x (c + 1) = q / 256) := Lib.hid (by rw [qN_s, HQ.out])
                have HJ2 : Hid ((j : Int) - 1 = 3 - ((c + 1 : Nat) : Int)) := Lib.hid (by have := HJ.out; omega)
                go_wp2_with fail
                go_roundw
                case rel => exact ⟨c + 1, by omega, by rw [HJ2.out], by rw [HQ2.out]; first | rfl | go_num, KR, KH, KO, HB⟩
                case measure => simp only [intOf]; have := HJ2.out; omega
              obtain rfl : c = 4 := by omega
              have KOn : Hid (Blk 26 wr N701 (bytC 32 (prtZ st (i + 1)))) := Lib.hid (by rw [← byt_congr (z := dgI st i 4) (fun j _ => dgI_4 st i j)]; exact KO.out)
              clear KO
              have KO := KOn
              clear KOn
              go_wp2_with fail
              go_roundw
              case rel => exact ⟨i + 1, by omega, by go_num, KR, KH, KO, HB⟩
              case measure => simp only [intOf]; omega
          obtain rfl : i = 8 := by omega
          have KOn : Hid (Blk 26 wr N701 (bytC 32 (dgZ st))) := Lib.hid (by rw [byt_congr (z := dgZ st) (y := prtZ st 8) (fun j hj => (if_pos (by omega)).symm)]; exact KO.out)
          clear KO
          have KO := KOn
          clear KOn
          go_wp2_with (refine wpList_ld (op := ⟨some 293, _, _, _, _, _⟩) (by rfl) 26 (.tmp 31) rfl N701 0 rfl (bytC 32 (dgZ st)) _ KO.out.all Tryd.underlying26 rfl (info_dL _) ?_; refine Hid.out ?_)
          refine Lib.hid ?_
          go_wp2_with (refine wpList_st rfl 26 (.tmp 2) (.tmp 293) rfl N1 0 rfl (.agg (bytC 32 (dgZ st))) (bytC 32 (dgZ st)) rfl rfl (info_d _) (byt_one _ _) KR.out (byt_fit _ _ _) (C' := bytC 32 (dgZ st)) (byt_all _ _ _) ?_; intro w9x q1; refine Hid.out ?_)
          refine Lib.hid ?_
          have KOn := Lib.hid (KO.out.far q1 (by omega))
          clear KO
          have KO := KOn
          clear KOn
          have HBn := Lib.hid (HB.out.trans (q1.2.1 _ (by omega)))
          clear HB
          have HB := HBn
          clear HBn
          have KRn : Hid (Blk 26 w9x N1 (bytC 32 (dgZ st))) := Lib.hid q1.1
          clear KR
          have KR := KRn
          clear KRn q1
          go_wp2_with fail
          exact bodyPost_ret (results_1 rfl _ _ N1 (bytC 32 (dgZ st)) Tryd.underlying26 rfl (info_d _) rfl KR.out) rfl ⟨by rw [HSX.out], HB.out⟩
end Go.Proofs.YtccoicjmmeoggaaDoor

/- The document's Hmac: the sum of a text with a key. Each theorem states its conditions. -/
namespace Go.Proofs.YtccoicjmmeoggaaDoor
open Go.RowKit
set_option linter.unusedVariables false

/-- bytes of the call's own, told by what keeps them -/
theorem own_keep {w : World} {base n : Nat} {v : Value} {z : Nat → Int} (h : OwnB w base v n z) : ∃ l : List (Nat × Obj), HKp w l ∧ (∀ w', HKp w' l → OwnB w' base v n z) ∧ (∀ v' : Value, (v'.ownBlock = none ∨ v'.ownBlock ≠ v.ownBlock) → ∀ p ∈ l, v'.ownBlock ≠ some p.1) ∧ (∀ v' : Value, (∀ p ∈ l, v'.ownBlock ≠ some p.1) → v'.ownBlock = none ∨ v'.ownBlock ≠ v.ownBlock) := by
  rcases h.1.2 with ⟨rfl, e⟩ | ⟨g, cap, cur, rfl, h1, h2, h3⟩
  · refine ⟨[], HKp.nil w, fun w' _ => ⟨⟨h.1.1, .inl ⟨rfl, e⟩⟩, h.2⟩, fun v' _ p hp => (by cases hp), fun v' _ => ?_⟩
    by_cases e : v'.ownBlock = none
    · exact .inl e
    · exact .inr (by simpa [Value.ownBlock] using e)
  · refine ⟨[(g, .cells cur 5 (0, 0))], (HKp.nil w).cons h2, fun w' hk => ⟨⟨h.1.1, .inr ⟨g, cap, cur, rfl, h1, hk.head, h3⟩⟩, h.2⟩, fun v' hv p hp e => ?_, fun v' hv => .inr fun e => ?_⟩
    · simp at hp
      subst hp
      rcases hv with hv | hv
      · rw [hv] at e; cases e
      · exact hv (by rw [e]; simp [Value.ownBlock])
    · exact hv (g, .cells cur 5 (0, 0)) (by simp) (by rw [e]; simp [Value.ownBlock])
/-- two lists that grow side by side -/
def Two (w0 w : World) (u v : Value) (n : Nat) (y z : Nat → Int) : Prop := HOut w0 w u n y [] ∧ HOut w0 w v n z [] ∧ (u.ownBlock = none ∨ u.ownBlock ≠ v.ownBlock) ∧ (v.ownBlock = none ∨ v.ownBlock ≠ u.ownBlock)
theorem hout_nil (w : World) {z : Nat → Int} (hz : ∀ j, 0 ≤ z j ∧ z j ≤ 255) : HOut w w (.slice none 0 0) 0 z [] := ⟨OwnB.nil w _ hz, Below.refl _ _, HKp.nil w, fun p hp => by cases hp⟩
/-- a list that grows while another one stays -/
theorem hout_side {w0 w : World} {u v : Value} {n m : Nat} {y z : Nat → Int} (hu : HOut w0 w u n y []) (hv : HOut w0 w v m z []) (h1 : u.ownBlock = none ∨ u.ownBlock ≠ v.ownBlock) : ∃ l, HOut w0 w u n y l ∧ (∀ w' u' n' y', HOut w0 w' u' n' y' l → HOut w0 w' v m z [] ∧ (u'.ownBlock = none ∨ u'.ownBlock ≠ v.ownBlock)) := by
  obtain ⟨l, h2, h3, h4, h5⟩ := own_keep hv.1
  exact ⟨l, ⟨hu.1, hu.2.1, h2, h4 u h1⟩, fun w' u' n' y' h => ⟨⟨h3 w' h.2.2.1, h.2.1, HKp.nil _, fun p hp => by cases hp⟩, h5 u' h.2.2.2⟩⟩
theorem ne_flip {u v : Value} (h : u.ownBlock = none ∨ u.ownBlock ≠ v.ownBlock) : v.ownBlock = none ∨ v.ownBlock ≠ u.ownBlock := by
  by_cases e : v.ownBlock = none
  · exact .inl e
  · rcases h with h | h
    · exact .inr (by rw [h]; exact e)
    · exact .inr (fun e' => h e'.symm)
theorem index_d (o : Oper) (e : Operand → Value) (x y : Operand) (ho : o.op = .index 26 x y) (s : Nat → Int) (i : Nat) (hi : i < 32) (h0 : e x = .agg (bytC 32 s)) (h1 : e y = .int .i64 (i : Int)) (W : World) : (execOp e o).run Tryd.prog W = .ok (.value (.int .u8 (s i))) W := by
  rcases (by omega : i = 0 ∨ i = 1 ∨ i = 2 ∨ i = 3 ∨ i = 4 ∨ i = 5 ∨ i = 6 ∨ i = 7 ∨ i = 8 ∨ i = 9 ∨ i = 10 ∨ i = 11 ∨ i = 12 ∨ i = 13 ∨ i = 14 ∨ i = 15 ∨ i = 16 ∨ i = 17 ∨ i = 18 ∨ i = 19 ∨ i = 20 ∨ i = 21 ∨ i = 22 ∨ i = 23 ∨ i = 24 ∨ i = 25 ∨ i = 26 ∨ i = 27 ∨ i = 28 ∨ i = 29 ∨ i = 30 ∨ i = 31) with rfl | rfl | rfl | rfl | rfl | rfl | rfl | rfl | rfl | rfl | rfl | rfl | rfl | rfl | rfl | rfl | rfl | rfl | rfl | rfl | rfl | rfl | rfl | rfl | rfl | rfl | rfl | rfl | rfl | rfl | rfl | rfl
  all_goals
    unfold execOp
    simp only [ho, h0, h1]
    kernel_rfl
theorem rsha_row {w0 w : World} {v : Value} {n : Nat} {z : Nat → Int} (h : OwnB w w0.heap.size v n z) (hn : n ≤ 140737488352000) :
    Calls Tryd.prog 13 #[v] w fun e w' => e = .returned (.agg (bytC 32 (shaZ z n))) ∧ Below w.heap.size w w' := by
  obtain ⟨A, c, rfl, h1, h2, h3, h4⟩ := h.shape
  exact rsha_any A n c z w h4 h3 hn
theorem cat_zz {K : Nat → Int} {i : Nat} {b : Int} (j : Nat) (hj : j < i + 1) (hb : K i = b) : catZ K i (fun _ => b) j = K j := by
  unfold catZ
  by_cases h : j < i
  · rw [if_pos h]
  · rw [if_neg h, show j = i from by omega, hb]
set_option maxHeartbeats 8000000 in
set_option maxRecDepth 100000 in
theorem rhmac_any (A : Option Addr) (m ck : Nat) (k : Nat → Int) (B : Option Addr) (n c : Nat) (z : Nat → Int) (w : World) (hk : Rd w A m k) (hp : Rd w B n z) (hB : B = none → n = 0 ∧ c = 0) (hm : m ≤ 64) (hn : n ≤ 140737488351300) :
    Calls Tryd.prog 15 #[.slice A m ck, .slice B n c] w fun e w' => e = .returned (.agg (bytC 32 (hmacZ k m z n))) ∧ Below w.heap.size w w' := by
  have HK := Lib.hid hk
  have HP := Lib.hid hp
  have HPB := Lib.hid hB
  have hkb := hkey_bd hk.2 m
  obtain ⟨K, eK⟩ : ∃ K, keyZ k m = K := ⟨_, rfl⟩
  rw [eK] at hkb
  obtain ⟨x1, e1⟩ : ∃ x, xorZ K 0x36 = x := ⟨_, rfl⟩
  obtain ⟨x2, e2⟩ : ∃ x, xorZ K 0x5c = x := ⟨_, rfl⟩
  obtain ⟨d1, e3⟩ : ∃ s, shaZ (catZ x1 64 z) (64 + n) = s := ⟨_, rfl⟩
  obtain ⟨d2, e4⟩ : ∃ s, shaZ (catZ x2 64 d1) 96 = s := ⟨_, rfl⟩
  have HS : Hid (hmacZ k m z n = d2) := Lib.hid (by unfold hmacZ; rw [eK, e1, e2, e3, e4])
  have HE := Lib.hid (And.intro e1 (And.intro e2 (And.intro e3 e4)))
  have HX1 : Hid (∀ j, 0 ≤ x1 j ∧ x1 j ≤ 255) := Lib.hid (by rw [← e1]; exact hxor_bd hkb _ (by omega))
  have HX2 : Hid (∀ j, 0 ≤ x2 j ∧ x2 j ≤ 255) := Lib.hid (by rw [← e2]; exact hxor_bd hkb _ (by omega))
  have HS1 : Hid (∀ j, 0 ≤ d1 j ∧ d1 j ≤ 255) := Lib.hid (by rw [← e3]; exact dg_bd _)
  have HKB := Lib.hid hkb
  have HKE := Lib.hid eK
  clear hk hp hB hkb eK e1 e2 e3 e4
  go_enter Tryd.func15, Tryd.ntmps15
  obtain ⟨N, hN⟩ : ∃ N, w.heap.size = N := ⟨_, rfl⟩
  have HN := Lib.hid hN
  clear hN
  go_wp2_with (refine wpList_new (op := ⟨some 4, _, _, _, _, _⟩) rfl 26 rfl (bytC 32 fun _ => 0) zero_d N HN.out ?_; intro w0 k1 b1 s1; refine Hid.out ?_)
  refine Lib.hid ?_
  have KR := Lib.hid k1
  have HB := Lib.hid b1
  have HK1 := Lib.hid (HK.out.below b1 rfl)
  have HP1 := Lib.hid (HP.out.below b1 rfl)
  have hwN : w.heap.size ≤ N := by rw [HN.out]; exact Nat.le_refl _
  clear k1 b1 s1
  have HT : Hid (Two w0 w0 (.slice none 0 0) (.slice none 0 0) 0 x1 x2) := Lib.hid ⟨hout_nil w0 HX1.out, hout_nil w0 HX2.out, .inl rfl, .inl rfl⟩
  go_wp2_with fail
  go_loopw [5, 6, 12] (fun t5 t6 t wr => ∃ (i : Nat) (A5 A6 : Option Addr) (c5 c6 : Nat), i ≤ 64 ∧ t = .int .i64 (i : Int) ∧ t5 = .slice A5 i c5 ∧ t6 = .slice A6 i c6 ∧ Hid (Two w0 wr (.slice A5 i c5) (.slice A6 i c6) i x1 x2)) (fun _ _ t _ => 64 - (intOf t).toNat)
  case atStart => exact ⟨0, none, none, 0, 0, by omega, rfl, rfl, rfl, HT⟩
  case round =>
    clear HT
    obtain ⟨i, A5, A6, c5, c6, hi, rfl, rfl, rfl, HT⟩ := hrel
    by_cases hlt : i < 64
    · have HK2 := Lib.hid (HK1.out.below HT.out.1.2.1 rfl)
      obtain ⟨b, hb⟩ : ∃ b, K i = b := ⟨_, rfl⟩
      have hb8 : 0 ≤ b ∧ b ≤ 255 := by rw [← hb]; exact HKB.out i
      by_cases him : i < m
      · obtain ⟨b9, off, rfl, hr⟩ := HK2.out.row (by omega)
        have hb : K i = b := hb
        have ck : wr.cell? ⟨b9, off + i, none⟩ = some (.int .u8 b) := (hr.2.1 i him).trans (by rw [← hb, ← HKE.out]; unfold keyZ; rw [if_pos him])
        have lim : (i : Int) < (m : Int) := by omega
        clear hr
        have HV1 : Hid (((b.toNat ^^^ (54 : Int).toNat : Nat) : Int) = x1 i) := Lib.hid (by rw [← HE.out.1, ← hb]; rfl)
        have HV2 : Hid (((b.toNat ^^^ (92 : Int).toNat : Nat) : Int) = x2 i) := Lib.hid (by rw [← HE.out.2.1, ← hb]; rfl)
        obtain ⟨p1, hp1⟩ : ∃ p, x1 i = p := ⟨_, rfl⟩
        obtain ⟨p2, hp2⟩ : ∃ p, x2 i = p := ⟨_, rfl⟩
        rw [hp1] at HV1
        rw [hp2] at HV2
        have HP1B := Lib.hid (show 0 ≤ p1 ∧ p1 ≤ 255 from by rw [← hp1]; exact HX1.out i)
        have HP2B := Lib.hid (show 0 ≤ p2 ∧ p2 ≤ 255 from by rw [← hp2]; exact HX2.out i)
        have HQ1 := Lib.hid hp1
        have HQ2 := Lib.hid hp2
        have HB8 := Lib.hid hb8
        clear hb hb8 hp1 hp2
        obtain ⟨l, hl, hL⟩ := hout_side HT.out.1 HT.out.2.1 HT.out.2.2.1
        have HL := Lib.hid (hl.alloc #[.int .u8 p1] 5)
        have HLF := Lib.hid hL
        clear hl hL HT
        go_wp2_with (refine wpList_v (op := ⟨some 25, _, _, _, _, _⟩) rfl (.int .u8 p1) (by rw [← HV1.out]; exact run_xor8 _ _ _ _ _ _ rfl b 54 rfl rfl HB8.out ⟨by omega, by omega⟩ _) ?_; refine Hid.out ?_)
        refine Lib.hid ?_
        go_wp2_with (at_builtin; refine wpList_hout rfl (.tmp 23) (.tmp 26) rfl rfl HL.out (some ⟨wr.heap.size, 0, none⟩) 1 1 (fun _ => p1) rfl (hrd_one (HKp.head HL.out.kp) rfl HP1B.out) (fun e => by cases e) (by omega) ?_; intro v4 w4 ho4; refine Hid.out ?_)
        refine Lib.hid ?_
        have ho5 := (ho4.tail).zz (z' := x1) (fun j hj => cat_zz j hj HQ1.out) HX1.out
        obtain ⟨hv6, hne⟩ := HLF.out w4 v4 (i + 1) x1 ho5
        have ho6 : HOut w0 w4 v4 (i + 1) x1 [] := ⟨ho5.1, ho5.2.1, HKp.nil _, fun p hp => by cases hp⟩
        obtain ⟨l2, hl2, hL2⟩ := hout_side hv6 ho6 (ne_flip hne)
        obtain ⟨A7, c7, rfl, _⟩ := ho5.1.shape
        have HM := Lib.hid (hl2.alloc #[.int .u8 p2] 5)
        have HMF := Lib.hid hL2
        clear ho4 ho5 hv6 hne ho6 hl2 hL2 HL HLF
        go_wp2_with (refine wpList_v (op := ⟨some 30, _, _, _, _, _⟩) rfl (.int .u8 p2) (by rw [← HV2.out]; exact run_xor8 _ _ _ _ _ _ rfl b 92 rfl rfl HB8.out ⟨by omega, by omega⟩ _) ?_; refine Hid.out ?_)
        refine Lib.hid ?_
        go_wp2_with (at_builtin; refine wpList_hout rfl (.tmp 28) (.tmp 31) rfl rfl HM.out (some ⟨w4.heap.size, 0, none⟩) 1 1 (fun _ => p2) rfl (hrd_one (HKp.head HM.out.kp) rfl HP2B.out) (fun e => by cases e) (by omega) ?_; intro v7 w7 ho7; refine Hid.out ?_)
        refine Lib.hid ?_
        have ho8 := (ho7.tail).zz (z' := x2) (fun j hj => cat_zz j hj HQ2.out) HX2.out
        obtain ⟨hv8, hne⟩ := HMF.out w7 v7 (i + 1) x2 ho8
        obtain ⟨A8, c8, rfl, _⟩ := ho8.1.shape
        have HT : Hid (Two w0 w7 (.slice A7 (i + 1) c7) (.slice A8 (i + 1) c8) (i + 1) x1 x2) := Lib.hid ⟨hv8, ⟨ho8.1, ho8.2.1, HKp.nil _, fun p hp => by cases hp⟩, ne_flip hne, hne⟩
        clear ho7 ho8 hv8 hne HM HMF
        go_wp2_with fail
        go_roundw
        case rel => exact ⟨i + 1, A7, A8, c7, c8, by omega, by go_num, rfl, rfl, HT⟩
        case measure => simp only [intOf]; omega
      · have hb0 : b = 0 := by rw [← hb, ← HKE.out]; unfold keyZ; rw [if_neg him]
        subst hb0
        have lim : ¬ (i : Int) < (m : Int) := by omega
        have HV1 : Hid ((((0 : Int).toNat ^^^ (54 : Int).toNat : Nat) : Int) = x1 i) := Lib.hid (by rw [← HE.out.1, ← hb]; rfl)
        have HV2 : Hid ((((0 : Int).toNat ^^^ (92 : Int).toNat : Nat) : Int) = x2 i) := Lib.hid (by rw [← HE.out.2.1, ← hb]; rfl)
        obtain ⟨p1, hp1⟩ : ∃ p, x1 i = p := ⟨_, rfl⟩
        obtain ⟨p2, hp2⟩ : ∃ p, x2 i = p := ⟨_, rfl⟩
        rw [hp1] at HV1
        rw [hp2] at HV2
        have HP1B := Lib.hid (show 0 ≤ p1 ∧ p1 ≤ 255 from by rw [← hp1]; exact HX1.out i)
        have HP2B := Lib.hid (show 0 ≤ p2 ∧ p2 ≤ 255 from by rw [← hp2]; exact HX2.out i)
        have HQ1 := Lib.hid hp1
        have HQ2 := Lib.hid hp2
        have HB8 := Lib.hid hb8
        clear hb hb8 hp1 hp2
        obtain ⟨l, hl, hL⟩ := hout_side HT.out.1 HT.out.2.1 HT.out.2.2.1
        have HL := Lib.hid (hl.alloc #[.int .u8 p1] 5)
        have HLF := Lib.hid hL
        clear hl hL HT
        go_wp2_with (refine wpList_v (op := ⟨some 25, _, _, _, _, _⟩) rfl (.int .u8 p1) (by rw [← HV1.out]; exact run_xor8 _ _ _ _ _ _ rfl 0 54 rfl rfl HB8.out ⟨by omega, by omega⟩ _) ?_; refine Hid.out ?_)
        refine Lib.hid ?_
        go_wp2_with (at_builtin; refine wpList_hout rfl (.tmp 23) (.tmp 26) rfl rfl HL.out (some ⟨wr.heap.size, 0, none⟩) 1 1 (fun _ => p1) rfl (hrd_one (HKp.head HL.out.kp) rfl HP1B.out) (fun e => by cases e) (by omega) ?_; intro v4 w4 ho4; refine Hid.out ?_)
        refine Lib.hid ?_
        have ho5 := (ho4.tail).zz (z' := x1) (fun j hj => cat_zz j hj HQ1.out) HX1.out
        obtain ⟨hv6, hne⟩ := HLF.out w4 v4 (i + 1) x1 ho5
        have ho6 : HOut w0 w4 v4 (i + 1) x1 [] := ⟨ho5.1, ho5.2.1, HKp.nil _, fun p hp => by cases hp⟩
        obtain ⟨l2, hl2, hL2⟩ := hout_side hv6 ho6 (ne_flip hne)
        obtain ⟨A7, c7, rfl, _⟩ := ho5.1.shape
        have HM := Lib.hid (hl2.alloc #[.int .u8 p2] 5)
        have HMF := Lib.hid hL2
        clear ho4 ho5 hv6 hne ho6 hl2 hL2 HL HLF
        go_wp2_with (refine wpList_v (op := ⟨some 30, _, _, _, _, _⟩) rfl (.int .u8 p2) (by rw [← HV2.out]; exact run_xor8 _ _ _ _ _ _ rfl 0 92 rfl rfl HB8.out ⟨by omega, by omega⟩ _) ?_; refine Hid.out ?_)
        refine Lib.hid ?_
        go_wp2_with (at_builtin; refine wpList_hout rfl (.tmp 28) (.tmp 31) rfl rfl HM.out (some ⟨w4.heap.size, 0, none⟩) 1 1 (fun _ => p2) rfl (hrd_one (HKp.head HM.out.kp) rfl HP2B.out) (fun e => by cases e) (by omega) ?_; intro v7 w7 ho7; refine Hid.out ?_)
        refine Lib.hid ?_
        have ho8 := (ho7.tail).zz (z' := x2) (fun j hj => cat_zz j hj HQ2.out) HX2.out
        obtain ⟨hv8, hne⟩ := HMF.out w7 v7 (i + 1) x2 ho8
        obtain ⟨A8, c8, rfl, _⟩ := ho8.1.shape
        have HT : Hid (Two w0 w7 (.slice A7 (i + 1) c7) (.slice A8 (i + 1) c8) (i + 1) x1 x2) := Lib.hid ⟨hv8, ⟨ho8.1, ho8.2.1, HKp.nil _, fun p hp => by cases hp⟩, ne_flip hne, hne⟩
        clear ho7 ho8 hv8 hne HM HMF
        go_wp2_with fail
        go_roundw
        case rel => exact ⟨i + 1, A7, A8, c7, c8, by omega, by go_num, rfl, rfl, HT⟩
        case measure => simp only [intOf]; omega
    · obtain rfl : i = 64 := by omega
      have HSP := Lib.hid (hout_side HT.out.1 HT.out.2.1 HT.out.2.2.1)
      obtain ⟨l, hl, hL⟩ := HSP.out
      have HL := Lib.hid hl
      have HLF := Lib.hid hL
      have HP2 := Lib.hid (HP1.out.below HT.out.1.2.1 rfl)
      clear hl hL HSP HT
      go_wp2_with (at_builtin; refine wpList_hout rfl (.tmp 34) (.tmp 35) rfl rfl HL.out B n c z rfl HP2.out HPB.out (by omega) ?_; intro v4 w4 ho4; refine Hid.out ?_)
      refine Lib.hid ?_
      obtain ⟨hv6, _⟩ := HLF.out w4 v4 (64 + n) _ ho4
      have HSH := Lib.hid (rsha_row ho4.1 (by omega))
      rw [HE.out.2.2.1] at HSH
      have HO6 := Lib.hid hv6
      clear ho4 hv6 HL HLF HP2
      go_wp2_with fail
      refine HSH.out.mono ?_
      rintro e w5 ⟨rfl, b1⟩
      have HO7 := Lib.hid (HO6.out.below b1)
      clear HSH b1 HO6
      obtain ⟨N9, hN9⟩ : ∃ N, w5.heap.size = N := ⟨_, rfl⟩
      have HN9 := Lib.hid hN9
      clear hN9
      go_wp2_with (refine wpList_new (op := ⟨some 9, _, _, _, _, _⟩) rfl 26 rfl (bytC 32 fun _ => 0) zero_d N9 HN9.out ?_; intro w6 k1 b1 s1; refine Hid.out ?_)
      refine Lib.hid ?_
      have K9 := Lib.hid k1
      have HO8 := Lib.hid (HO7.out.below b1)
      have hw9 : w0.heap.size ≤ N9 := by rw [← HN9.out]; exact HO7.out.le
      have HOF : Hid ((Value.slice A6 64 c6).ownBlock ≠ some N9) := Lib.hid (HO7.out.own_lt (by rw [HN9.out]; exact Nat.le_refl _))
      clear k1 b1 s1 HO7
      go_wp2_with (refine wpList_st rfl 26 (.tmp 9) (.tmp 37) rfl N9 0 rfl (.agg (bytC 32 d1)) (bytC 32 d1) rfl rfl (info_d _) (byt_one _ _) K9.out (byt_fit _ _ _) (C' := bytC 32 d1) (byt_all _ _ _) ?_; intro w7 q1; refine Hid.out ?_)
      refine Lib.hid ?_
      have HO9 := Lib.hid (HO8.out.far q1 HOF.out hw9)
      have K9n : Hid (Blk 26 w7 N9 (bytC 32 d1)) := Lib.hid q1.1
      clear q1 HO8 K9 HOF
      go_wp2_with (refine wpList_ld (op := ⟨some 38, _, _, _, _, _⟩) (by rfl) 26 (.tmp 9) rfl N9 0 rfl (bytC 32 d1) _ K9n.out.all Tryd.underlying26 rfl (info_dL _) ?_; refine Hid.out ?_)
      refine Lib.hid ?_
      clear K9n
      go_wp2_with fail
      go_loopw [6, 39] (fun t6 t wr => ∃ (i : Nat) (A7 : Option Addr) (c7 : Nat), i ≤ 32 ∧ t = .int .i64 (i : Int) ∧ t6 = .slice A7 (64 + i) c7 ∧ Hid (HOut w0 wr (.slice A7 (64 + i) c7) (64 + i) (catZ x2 64 d1) [])) (fun _ t _ => 32 - (intOf t).toNat)
      case atStart => exact ⟨0, A6, c6, by omega, rfl, rfl, Lib.hid (HO9.out.zz (fun j hj => by unfold catZ; rw [if_pos (by omega)]) (hcat_bd HX2.out HS1.out 64))⟩
      case round =>
        clear HO9
        obtain ⟨i, A7, c7, hi, rfl, rfl, HO⟩ := hrel
        by_cases hlt2 : i < 32
        · obtain ⟨p1, hp1⟩ : ∃ p, d1 i = p := ⟨_, rfl⟩
          have HPB1 := Lib.hid (show 0 ≤ p1 ∧ p1 ≤ 255 from by rw [← hp1]; exact HS1.out i)
          have HQ1 := Lib.hid hp1
          clear hp1
          have HL := Lib.hid (HO.out.alloc #[.int .u8 p1] 5)
          go_wp2_with (refine wpList_v (op := ⟨some 41, _, _, _, _, _⟩) rfl (.int .u8 p1) (by rw [← HQ1.out]; exact index_d _ _ _ _ rfl d1 i hlt2 rfl rfl _) ?_; refine Hid.out ?_)
          refine Lib.hid ?_
          go_wp2_with (at_builtin; refine wpList_hout rfl (.tmp 42) (.tmp 44) rfl rfl HL.out (some ⟨wr.heap.size, 0, none⟩) 1 1 (fun _ => p1) rfl (hrd_one (HKp.head HL.out.kp) rfl HPB1.out) (fun e => by cases e) (by omega) ?_; intro v8 w8 ho8; refine Hid.out ?_)
          refine Lib.hid ?_
          have ho9 := (ho8.tail).zz (z' := catZ x2 64 d1) (fun j hj => cat_zz j hj (by unfold catZ; rw [if_neg (by omega), Nat.add_sub_cancel_left, HQ1.out])) (hcat_bd HX2.out HS1.out 64)
          obtain ⟨A9, c9, rfl, _⟩ := ho9.1.shape
          have HO2 := Lib.hid ho9
          clear ho8 ho9 HL HO
          go_wp2_with fail
          go_roundw
          case rel => exact ⟨i + 1, A9, c9, by omega, by go_num, rfl, HO2⟩
          case measure => simp only [intOf]; omega
        · obtain rfl : i = 32 := by omega
          have HSH := Lib.hid (rsha_row HO.out.1 (by omega))
          rw [show 64 + 32 = 96 from rfl, HE.out.2.2.2] at HSH
          have KRR := Lib.hid (KR.out.below HO.out.2.1 KR.out.lt)
          have HBB := Lib.hid (HB.out.trans (HO.out.2.1.mono HB.out.size))
          clear KR HB
          go_wp2_with fail
          refine HSH.out.mono ?_
          rintro e w9 ⟨rfl, b1⟩
          have KR := Lib.hid (KRR.out.below b1 KRR.out.lt)
          have HB := Lib.hid (HBB.out.trans (b1.mono HBB.out.size))
          clear KRR HBB b1 HSH HO
          go_wp2_with (refine wpList_st rfl 26 (.tmp 4) (.tmp 48) rfl N 0 rfl (.agg (bytC 32 d2)) (bytC 32 d2) rfl rfl (info_d _) (byt_one _ _) KR.out (byt_fit _ _ _) (C' := bytC 32 d2) (byt_all _ _ _) ?_; intro w10 q1; refine Hid.out ?_)
          refine Lib.hid ?_
          have HB2 := Lib.hid (HB.out.trans (q1.2.1 _ hwN))
          have KR2 : Hid (Blk 26 w10 N (bytC 32 d2)) := Lib.hid q1.1
          clear q1 HB KR
          go_wp2_with fail
          exact bodyPost_ret (results_1 rfl _ _ N (bytC 32 d2) Tryd.underlying26 rfl (info_d _) rfl KR2.out) rfl ⟨by rw [HS.out], HB2.out⟩
end Go.Proofs.YtccoicjmmeoggaaDoor

/- The document's Seal. Each theorem states its conditions. -/
namespace Go.Proofs.YtccoicjmmeoggaaDoor
open Go.RowKit
set_option linter.unusedVariables false

theorem zero_pdR : (Tryd.prog.info? 42).map (·.zero) = some (some (.agg (pdC pd0))) := by kernel_rfl
/-- values of the call's own, between two marks -/
def LO (w : World) (base top m : Nat) (L : Nat → It) : Prop := base < w.heap.size ∧ ∀ j, j < m → (0 ≤ (L j).ty ∧ (L j).ty ≤ 255) ∧ (L j).n ≤ 140737488351232 ∧ ∃ g, (L j).A = some ⟨g, 0, none⟩ ∧ base ≤ g ∧ g < top ∧ Own8 w g (L j).n (L j).c (L j).z
section
variable {w w' : World} {base top m : Nat} {L : Nat → It}
theorem LO.lt (h : LO w base top m L) : base < w.heap.size := h.1
theorem LO.below {B : Nat} (h : LO w base top m L) (hb : Below w.heap.size w w') (hB : base < B) : LO w' base top m L :=
  ⟨Nat.lt_of_lt_of_le h.1 hb.size, fun j hj => by
    obtain ⟨h1, h2, g, h3, h4, h5, h6⟩ := h.2 j hj
    exact ⟨h1, h2, g, h3, h4, h5, h6.below hb h6.lt⟩⟩
theorem LO.far {b : Nat} {C : Array Value} {t : TypeId} (h : LO w base top m L) (hs : Stored w w' b C t) (hk : b < base ∨ top ≤ b) : LO w' base top m L :=
  ⟨Nat.lt_of_lt_of_le h.1 (hs.2.1 b (Nat.le_refl _)).size, fun j hj => by
    obtain ⟨h1, h2, g, h3, h4, h5, h6⟩ := h.2 j hj
    exact ⟨h1, h2, g, h3, h4, h5, h6.block (hs.2.2 g (by omega))⟩⟩
theorem LO.ok (h : LO w base top m L) : ∀ j, j < m → ItOk w (L j) := fun j hj => by
  obtain ⟨h1, h2, g, h3, h4, h5, h6⟩ := h.2 j hj
  exact ⟨h1, by rw [h3]; exact h6.rd, fun e => (by rw [h3] at e; cases e), h2⟩
end
/-- an answer, told as a value -/
def BlV (w : World) (n : Nat) (z : Nat → Int) (v : Value) (w' : World) : Prop := ∃ g c, v = .slice (some ⟨g, 0, none⟩) n c ∧ w.heap.size ≤ g ∧ Own8 w' g n c z ∧ Below w.heap.size w w'
theorem BlkP.v {w w' : World} {n : Nat} {z : Nat → Int} {e : Ending} (h : BlkP w n z e w') : ∃ v, e = .returned v ∧ BlV w n z v w' := by
  obtain ⟨g, c, rfl, h⟩ := h
  exact ⟨_, rfl, g, c, rfl, h⟩
end Go.Proofs.YtccoicjmmeoggaaDoor

/- Lists of values; the values of a type. Each theorem states its conditions. -/
namespace Go.Proofs.YtccoicjmmeoggaaDoor
open Go.RowKit
set_option linter.unusedVariables false

/-- the cells of the first m values -/
def cellsV (K : Nat → It) : Nat → List Value
  | 0 => []
  | m + 1 => cellsV K m ++ [.slice (K m).A (K m).n (K m).c]
theorem cellsV_congr (K K' : Nat → It) (m : Nat) (h : ∀ j, j < m → (K j).A = (K' j).A ∧ (K j).n = (K' j).n ∧ (K j).c = (K' j).c) : cellsV K m = cellsV K' m := by
  induction m with
  | zero => rfl
  | succ m ih =>
    obtain ⟨h2, h3, h4⟩ := h m (by omega)
    simp only [cellsV, h2, h3, h4]
    rw [ih (fun j hj => h j (by omega))]
theorem cellsV_push (K : Nat → It) (k : Nat) (t : It) : cellsV (updT K k t) (k + 1) = cellsV K k ++ [.slice t.A t.n t.c] := by
  simp only [cellsV, updT_same]
  rw [cellsV_congr (updT K k t) K k (fun j hj => by rw [updT_other _ _ _ _ (by omega)]; exact ⟨rfl, rfl, rfl⟩)]
/-- a value that can be read -/
def ValOk (w : World) (t : It) : Prop := Rd w t.A t.n t.z ∧ (t.A = none → t.n = 0 ∧ t.c = 0) ∧ t.n ≤ 140737488351232
theorem ItOk.val {w : World} {t : It} (h : ItOk w t) : ValOk w t := h.2
theorem ValOk.below {w w' : World} {t : It} (h : ValOk w t) (hb : Below w.heap.size w w') : ValOk w' t := ⟨h.1.below hb rfl, h.2⟩
theorem info_bytes : (Tryd.prog.info? 22).map (fun i => (i.zero, i.size, i.bytes)) = some (some (.slice none 0 0), 1, 24) := by kernel_rfl

/-- how many of the first k are of a type; the values of these -/
def cnt (L : Nat → It) (kind : Int) : Nat → Nat
  | 0 => 0
  | k + 1 => if (L k).ty = kind then cnt L kind k + 1 else cnt L kind k
def Sel (L : Nat → It) (kind : Int) : Nat → Nat → It
  | 0 => fun _ => ⟨0, none, 0, 0, fun _ => 0⟩
  | k + 1 => if (L k).ty = kind then updT (Sel L kind k) (cnt L kind k) (L k) else Sel L kind k
theorem cnt_le (L : Nat → It) (kind : Int) (k : Nat) : cnt L kind k ≤ k := by
  induction k with
  | zero => exact Nat.le_refl _
  | succ k ih => simp only [cnt]; split <;> omega
end Go.Proofs.YtccoicjmmeoggaaDoor

/- Of answers the values of a type; so does the document's Of. Each theorem states its conditions. -/
namespace Go.Proofs.YtccoicjmmeoggaaDoor
open Go.RowKit
set_option linter.unusedVariables false

/-- nil, or bytes of the call's own -/
def NilOrOwn (w : World) (base : Nat) (t : It) : Prop :=
  ((t.A = none ∧ t.n = 0 ∧ t.c = 0) ∨ ∃ g, t.A = some ⟨g, 0, none⟩ ∧ base ≤ g ∧ Own8 w g t.n t.c t.z) ∧ t.n ≤ 140737488351232 ∧ ∀ j, 0 ≤ t.z j ∧ t.z j ≤ 255
theorem NilOrOwn.below {w w' : World} {base : Nat} {t : It} (h : NilOrOwn w base t) (hb : Below w.heap.size w w') : NilOrOwn w' base t := by
  refine ⟨?_, h.2⟩
  rcases h.1 with h | ⟨g, h1, h2, h3⟩
  · exact .inl h
  · exact .inr ⟨g, h1, h2, h3.below hb h3.lt⟩
theorem NilOrOwn.ok {w : World} {base : Nat} {t : It} (h : NilOrOwn w base t) : ValOk w t := by
  rcases h.1 with ⟨h0, h1, h2⟩ | ⟨g, h1, h2, h3⟩
  · exact ⟨⟨.inl h1, h.2.2⟩, fun _ => ⟨h1, h2⟩, h.2.1⟩
  · exact ⟨⟨.inr ⟨g, 0, h1, h3.row⟩, h.2.2⟩, fun e => (by rw [h1] at e; cases e), h.2.1⟩
theorem NilOrOwn.grown {w w' : World} {base n : Nat} {t : It} {v : Value} {xs : List Value} (h : NilOrOwn w base t) (hr : w.ownsRow base 22 1 v n xs) (hg : w.grownBy w' v.ownBlock) : NilOrOwn w' base t := by
  refine ⟨?_, h.2⟩
  rcases h.1 with h | ⟨g, h1, h2, h3⟩
  · exact .inl h
  · refine .inr ⟨g, h1, h2, h3.grown hg ?_⟩
    intro e
    obtain ⟨⟨cur, hc, _⟩, _⟩ := h3
    rcases hr.2 with ⟨rfl, _⟩ | ⟨g', cap, cur', rfl, _, hc', _⟩
    · cases e
    · simp [Value.ownBlock] at e
      subst e
      rw [hc] at hc'
      simp at hc'

def RefOfPost (w : World) (L : Nat → It) (kind : Int) (m : Nat) (e : Ending) (w' : World) : Prop :=
  ∃ v, e = .returned v ∧ w'.ownsRow w.heap.size 22 1 v (cnt L kind m) (cellsV (Sel L kind m) (cnt L kind m)) ∧ Below w.heap.size w w'

set_option maxHeartbeats 4000000 in
set_option maxRecDepth 100000 in
theorem refof_any (A : Option Addr) (m c : Nat) (kind : Int) (L : Nat → It) (w : World) (h : RdT w A m L) (hm : m * 32 ≤ 140737488351232) :
    Calls Tryd.prog 43 #[.slice A m c, .int .u8 kind] w (RefOfPost w L kind m) := by
  obtain ⟨i0, hi, hz0, hz1, hz2⟩ := info_parts info_bytes
  have HR := Lib.hid h
  clear h
  go_enter Tryd.func43, Tryd.ntmps43
  go_wp2_with fail
  go_loopw [5, 9] (fun v i wr => ∃ k : Nat, k ≤ m ∧ i = .int .i64 k ∧ wr.ownsRow w.heap.size 22 1 v (cnt L kind k) (cellsV (Sel L kind k) (cnt L kind k)) ∧ Below w.heap.size w wr)
    (fun _ i _ => m - (intOf i).toNat)
  case atStart => exact ⟨0, by omega, rfl, World.ownsRow_nil _ _ _ _, bself w⟩
  case round =>
    obtain ⟨k, hk, rfl, hown, hb⟩ := hrel
    by_cases hkm : k < m
    · obtain ⟨b, off, rfl, hr⟩ := (HR.out.below hb).row (by omega)
      obtain ⟨c0, c1, c2⟩ := hr.2 k hkm
      have hbs := hb.size
      have HO := Lib.hid hown
      have hcl := cnt_le L kind k
      clear hr hown c2
      by_cases hty : (L k).ty = kind
      · have hc1 : cnt L kind (k + 1) = cnt L kind k + 1 := by simp [cnt, hty]
        have hS : Sel L kind (k + 1) = updT (Sel L kind k) (cnt L kind k) (L k) := by simp [Sel, hty]
        have m1 : cnt L kind k + 1 ≤ maxLen := by unfold maxLen; omega
        have m2 : (cnt L kind k + 1) * 24 ≤ 140737488355328 := by omega
        have HC1 := Lib.hid hc1
        have HS := Lib.hid hS
        rw [hty] at c0
        clear hc1 hS hty
        generalize hcn : cnt L kind k = q at *
        go_wp2_with (at_builtin; refine wpList_append_own_at _ rfl (.tmp 19) (.tmp 25) 89 rfl w.heap.size 22 i0 (.slice none 0 0) 1 24 Tryd.underlying89 hi hz0 hz1 hz2 rfl (by decide) u5 q _ rfl (HO.out.alloc _) ⟨wr.heap.size, 0, none⟩ 1 1 [.slice (L k).A (L k).n (L k).c] rfl rfl (one_new wr _ _) (by intro u hu; simp only [List.mem_cons, List.not_mem_nil, or_false] at hu; subst hu; rfl) m1 m2 (by simp; omega) ?_; intro v1 w1 hown1 hgrow1 hnil1 hat1)
        have HB := Lib.hid ((hb.alloc hbs _).grown hgrow1 (by simp; omega) (fun x e => (HO.out.lt x e).1))
        have HR2 : Hid (w1.ownsRow w.heap.size 22 1 v1 (cnt L kind (k + 1)) (cellsV (Sel L kind (k + 1)) (cnt L kind (k + 1)))) := Lib.hid (by rw [HC1.out, HS.out, cellsV_push]; exact hown1)
        clear hown1 hgrow1 hnil1 hat1 c0 c1
        go_wp2
        go_roundw
        case rel => exact ⟨k + 1, by omega, by go_num, HR2.out, HB.out⟩
        case measure => simp only [intOf]; omega
      · have hc1 : cnt L kind (k + 1) = cnt L kind k := by simp [cnt, hty]
        have hS : Sel L kind (k + 1) = Sel L kind k := by simp [Sel, hty]
        have HR2 : Hid (wr.ownsRow w.heap.size 22 1 u5 (cnt L kind (k + 1)) (cellsV (Sel L kind (k + 1)) (cnt L kind (k + 1)))) := Lib.hid (by rw [hc1, hS]; exact HO.out)
        clear hc1 hS
        generalize hty' : (L k).ty = ty at *
        clear hty'
        go_wp2
        go_roundw
        case rel => exact ⟨k + 1, by omega, by go_num, HR2.out, hb⟩
        case measure => simp only [intOf]; omega
    · obtain rfl : k = m := by omega
      have ho := Lib.hid hown
      clear hown
      go_wp2
      go_ret
      exact ⟨_, rfl, ho.out, hb⟩
end Go.Proofs.YtccoicjmmeoggaaDoor

/- The document's DocSeal: what it answers, for every packet and key. Each theorem states its conditions. -/
namespace Go.Proofs.YtccoicjmmeoggaaDoor
open Go.RowKit
set_option linter.unusedVariables false
set_option linter.unusedSimpArgs false

/-- carried along -/
def BeO (w0 w : World) : Prop := Below w0.heap.size w0 w
theorem BeO.below {w0 w w' : World} (h : BeO w0 w) (hb : Below w.heap.size w w') : BeO w0 w' := Below.trans h (hb.mono (Below.size h))
/-- carried along -/
def TwO (w : World) (base : Nat) (v : Value) (m : Nat) (L : Nat → It) : Prop := OwnT w base v m L
theorem TwO.below {w w' : World} {base m : Nat} {v : Value} {L : Nat → It} (h : TwO w base v m L) (hb : Below w.heap.size w w') : TwO w' base v m L := OwnT.below h hb
def VaO (w : World) (base : Nat) (t : It) : Prop := OwnV w base t
theorem VaO.below {w w' : World} {base : Nat} {t : It} (h : VaO w base t) (hb : Below w.heap.size w w') : VaO w' base t := OwnV.below h hb
theorem cnt_no {L : Nat → It} {m : Nat} (h : NoSig L m) : cnt L 10 m = 0 := by
  induction m with
  | zero => rfl
  | succ m ih =>
    unfold cnt
    rw [if_neg (h m (by omega)), ih fun j hj => h j (by omega)]
theorem info_key : (Tryd.prog.info? 45).map (·.size) = some 2 := by kernel_rfl
end Go.Proofs.YtccoicjmmeoggaaDoor

/- Lists of keys; the law's twin of one. Each theorem states its conditions. -/
namespace Go.Proofs.YtccoicjmmeoggaaDoor
open Go.RowKit
set_option linter.unusedVariables false
set_option linter.unusedSimpArgs false

/-- a key's cells: the item's type is its number -/
def kC (t : It) : Array Value := #[.int .u16 t.ty, .slice t.A t.n t.c]
def kR (K : Nat → It) : Nat → Array Value := fun j => kC (K j)
theorem kR_recs (K : Nat → It) : Recs 2 (kR K) := fun j => ⟨rfl, fun u hu => by
  rcases List.mem_cons.1 hu with rfl | hu
  · rfl
  · rcases List.mem_cons.1 hu with rfl | hu
    · rfl
    · cases hu⟩
def KeOk (w : World) (t : It) : Prop := (0 ≤ t.ty ∧ t.ty ≤ 65535) ∧ Rd w t.A t.n t.z ∧ (t.A = none → t.n = 0 ∧ t.c = 0) ∧ t.n ≤ 140737488351232
theorem KeOk.below {w w' : World} {t : It} (h : KeOk w t) (hb : Below w.heap.size w w') : KeOk w' t := ⟨h.1, h.2.1.below hb rfl, h.2.2⟩
/-- a list of keys that can be read -/
def RdK (w : World) (A : Option Addr) (m : Nat) (K : Nat → It) : Prop := RdR w A m 2 (kR K) ∧ ∀ j, j < m → KeOk w (K j)
theorem RdK.below {w w' : World} {A : Option Addr} {m : Nat} {K : Nat → It} (h : RdK w A m K) (hb : Below w.heap.size w w') : RdK w' A m K := ⟨h.1.below hb rfl, fun j hj => (h.2 j hj).below hb⟩
/-- of the call's own -/
def OwnKV (w : World) (base : Nat) (t : It) : Prop := (0 ≤ t.ty ∧ t.ty ≤ 65535) ∧ t.n ≤ 140737488351232 ∧ ∃ g, t.A = some ⟨g, 0, none⟩ ∧ base ≤ g ∧ Own8 w g t.n t.c t.z
def OwnK (w : World) (base : Nat) (v : Value) (m : Nat) (K : Nat → It) : Prop := w.ownsRow base 45 2 v m (cellsR (kR K) m) ∧ ∀ j, j < m → OwnKV w base (K j)
theorem OwnKV.below {w w' : World} {base : Nat} {t : It} (h : OwnKV w base t) (hb : Below w.heap.size w w') : OwnKV w' base t := by
  obtain ⟨h1, h2, g, h3, h4, h5⟩ := h
  exact ⟨h1, h2, g, h3, h4, h5.below hb h5.lt⟩
theorem OwnKV.ok {w : World} {base : Nat} {t : It} (h : OwnKV w base t) : KeOk w t := by
  obtain ⟨h1, h2, g, h3, h4, h5⟩ := h
  exact ⟨h1, by rw [h3]; exact h5.rd, fun e => (by rw [h3] at e; cases e), h2⟩
theorem OwnK.below {w w' : World} {base m : Nat} {v : Value} {K : Nat → It} (h : OwnK w base v m K) (hb : Below w.heap.size w w') : OwnK w' base v m K := ⟨ownsRow_below' h.1 hb, fun j hj => (h.2 j hj).below hb⟩
theorem OwnK.shape {w : World} {base m : Nat} {v : Value} {K : Nat → It} (h : OwnK w base v m K) : ∃ A c, v = .slice A m c ∧ m ≤ c ∧ c ≤ maxLen ∧ (A = none → m = 0 ∧ c = 0) ∧ RdK w A m K := by
  obtain ⟨A, c, h1, h2, h3, h4, h5⟩ := ownR_shape (kR_recs K) (by decide) h.1
  exact ⟨A, c, h1, h2, h3, h4, h5, fun j hj => (h.2 j hj).ok⟩
theorem OwnK.nil (w : World) (base : Nat) (K : Nat → It) : OwnK w base (.slice none 0 0) 0 K := ⟨World.ownsRow_nil _ _ _ _, fun j hj => by omega⟩
theorem kcells_push (K : Nat → It) (m : Nat) (t : It) : cellsR (kR (updT K m t)) (m + 1) = cellsR (kR K) m ++ [.int .u16 t.ty, .slice t.A t.n t.c] := by
  show cellsR (kR (updT K m t)) m ++ (kC (updT K m t m)).toList = _
  rw [updT_same, cellsR_congr m (C' := kR K) fun j hj => by unfold kR; rw [updT_other _ _ _ _ (by omega)]]
  rfl
theorem info_key3 : (Tryd.prog.info? 45).map (fun i => (i.zero, i.size, i.bytes)) = some (some (.agg #[.int .u16 0, .slice none 0 0]), 2, 32) := by kernel_rfl
theorem zero_key : (Tryd.prog.info? 45).map (·.zero) = some (some (.agg #[.int .u16 0, .slice none 0 0])) := by kernel_rfl
theorem kC_one (t : It) : (kC t).all (·.oneCell') = true := by kernel_rfl
/-- blocks of unlike types -/
theorem own8_grownK {w w' : World} {base g n c m : Nat} {z : Nat → Int} {v : Value} {xs : List Value} (h : Own8 w g n c z) (hr : w.ownsRow base 45 2 v m xs) (hg : w.grownBy w' v.ownBlock) : Own8 w' g n c z := by
  refine h.grown hg fun e => ?_
  rcases hr.2 with ⟨rfl, _⟩ | ⟨g2, cap, cur, rfl, hb, hc, _⟩
  · cases e
  · injection e with e
    subst e
    obtain ⟨⟨cur2, h1, _⟩, _⟩ := h
    rw [h1] at hc
    injection hc with hc
    injection hc with _ hc _
    exact absurd hc (by decide)
theorem kpush_run {o : Oper} {a : Act} {w : World} (s x : Operand) (ho : o.op = .call { callee := .builtin .append, args := #[s, x], argTypes := #[50, 50] })
    (w0 : World) (v : Value) (m : Nat) (K : Nat → It) (hs : a.eval s = v) (h : OwnK w w0.heap.size v m K) (N : Nat) (hx : a.eval x = .slice (some ⟨N, 0, none⟩) 1 1) (t : It) (hK : Blk 45 w N (kC t)) (ht : OwnKV w w0.heap.size t) (hm : (m + 1) * 32 ≤ 140737488355328) (hb : Below w0.heap.size w0 w) :
    ∃ v' w', (execOp a.eval o).run Tryd.prog w = .ok (.value v') w' ∧ OwnK w' w0.heap.size v' (m + 1) (updT K m t) ∧ Below w0.heap.size w0 w' ∧ ∀ k, k < w.heap.size → v.ownBlock ≠ some k → w'.heap[k]? = w.heap[k]? := by
  obtain ⟨i0, hi, hz0, hz1, hz2⟩ := info_parts info_key3
  obtain ⟨v', w', hr, h2, h3, h4, h5⟩ := run_append_own_at (P := Tryd.prog) w w0.heap.size 50 o.type 45 i0 _ 2 32 Tryd.underlying50 hi hz0 hz1 hz2 rfl (by decide) v m _ h.1 ⟨N, 0, none⟩ 1 1 (kC t).toList rfl (fun j u hu => by rw [add_none, Nat.zero_add, hK.cell]; simpa using hu) (fun u hu => by simpa using (Array.all_eq_true_iff_forall_mem.1 (kC_one t)) u (by simpa using hu)) (by unfold maxLen; omega) (by omega) hb.size
  have hv : ∀ t, OwnKV w w0.heap.size t → OwnKV w' w0.heap.size t := fun t h9 => by
    obtain ⟨a1, a2, g, a3, a4, a5⟩ := h9
    exact ⟨a1, a2, g, a3, a4, own8_grownK a5 h.1 h3⟩
  refine ⟨v', w', ?_, ⟨by rw [kcells_push]; exact h2, fun j hj => ?_⟩, hb.grown h3 hb.size (fun k e => (h.1.lt k e).1), fun k hk hne => h3.block k hk (fun e => hne e.symm)⟩
  · unfold execOp
    simp only [ho, resolve, invoke, builtin, Sem.run_bind, Sem.run_pure, Result.andThen_ok, List.map_toArray, List.map_cons, List.map_nil, hs, hx, hr]
  · by_cases e : j = m
    · subst e; rw [updT_same]; exact hv t ht
    · rw [updT_other _ _ _ _ e]; exact hv _ (h.2 j (by omega))
/-- where it alone may come up -/
theorem takeKp {ops : Array Oper} {Q : Exit → Act → World → Prop} {md : Region.Mode} {S : World → Prop} {i : Nat} {oi : Oper} (d : Option Tmp) {fuel : Nat} {listed : Array Bool} {a : Act} {w : World} (s x : Operand) (hi : ops[i]? = some oi) (hd : oi.dst = d)
    (hr : Region.ready md ops listed = [i]) (hw : Region.wanted oi (yielded ops a.tmps) = true)
    (ho : oi.op = .call { callee := .builtin .append, args := #[s, x], argTypes := #[50, 50] })
    {w0 : World} {v : Value} {m : Nat} {L : Nat → It} (hs : a.eval s = v) (h : OwnK w w0.heap.size v m L) {N : Nat} (hx : a.eval x = .slice (some ⟨N, 0, none⟩) 1 1) {t : It} (hK : Blk 45 w N (kC t)) (ht : OwnKV w w0.heap.size t) (hm : (m + 1) * 32 ≤ 140737488355328) (hb : Below w0.heap.size w0 w)
    (k : ∀ v' w', OwnK w' w0.heap.size v' (m + 1) (updT L m t) → Below w0.heap.size w0 w' → (∀ k, k < w.heap.size → v.ownBlock ≠ some k → w'.heap[k]? = w.heap[k]?) → S w' ∧ wpAnyH Tryd.prog md ops Q S fuel (listed.setIfInBounds i true) (a.put d v') w') :
    wpAnyH Tryd.prog md ops Q S (fuel + 1) listed a w := by
  obtain ⟨v', w', h1, h2, h3, h4⟩ := kpush_run s x ho w0 v m L hs h N hx t hK ht hm hb
  obtain ⟨h7, h8⟩ := k v' w' h2 h3 h4
  exact takeV d hi hd hr hw h1 h7 h8
theorem build_key (o : Oper) (e : Operand → Value) (x0 x1 : Operand) (ho : o.op = .build 45 #[(0, x0), (1, x1)]) (t : It) (h0 : e x0 = .int .u16 t.ty) (h1 : e x1 = .slice t.A t.n t.c) (W : World) : (execOp e o).run Tryd.prog W = .ok (.value (.agg (kC t))) W := by
  unfold execOp
  simp only [ho]
  simp only [List.map_toArray, List.map_cons, List.map_nil, h0, h1]
  kernel_rfl
theorem bs_key (W : World) (o : Oper) (e : Operand → Value) {x0 : Operand} (ho : o.op = .buildSlice 50 1 #[(0, x0)]) (t : It) (h0 : e x0 = .agg (kC t)) :
    (execOp e o).run Tryd.prog W = .ok (.value (.slice (some ⟨W.heap.size, 0, none⟩) 1 1)) (W.alloc (.cells (kC t) 45)) := by
  unfold execOp
  simp only [ho]
  simp only [List.map_toArray, List.map_cons, List.map_nil, h0]
  kernel_rfl
/-- carried along -/
def OwKO (w : World) (base : Nat) (v : Value) (m : Nat) (K : Nat → It) : Prop := OwnK w base v m K
theorem OwKO.below {w w' : World} {base m : Nat} {v : Value} {K : Nat → It} (h : OwKO w base v m K) (hb : Below w.heap.size w w') : OwKO w' base v m K := OwnK.below h hb
def KvO (w : World) (base : Nat) (t : It) : Prop := OwnKV w base t
theorem KvO.below {w w' : World} {base : Nat} {t : It} (h : KvO w base t) (hb : Below w.heap.size w w') : KvO w' base t := OwnKV.below h hb
theorem OwnK.far {w w' : World} {base m b : Nat} {v : Value} {K : Nat → It} {C : Array Value} {t : TypeId} (h : OwnK w base v m K) (hs : Stored w w' b C t) (hb : ∀ j, j < m → (K j).A ≠ some ⟨b, 0, none⟩) (hv : v.ownBlock ≠ some b) : OwnK w' base v m K := by
  refine ⟨⟨h.1.1, ?_⟩, fun j hj => ?_⟩
  · rcases h.1.2 with h1 | ⟨g, cap, cur, hv2, hg, hc, r⟩
    · exact .inl h1
    · refine .inr ⟨g, cap, cur, hv2, hg, (hs.2.2 g fun e => hv ?_).trans hc, r⟩
      rw [hv2, ← e]; rfl
  · obtain ⟨h1, h2, g, h3, h4, h5⟩ := h.2 j hj
    exact ⟨h1, h2, g, h3, h4, h5.block (hs.2.2 g fun e => hb j hj (by rw [h3, e]))⟩
def TwKP (w : World) (m : Nat) (K : Nat → It) (e : Ending) (w' : World) : Prop := ∃ v K', e = .returned v ∧ OwnK w' w.heap.size v m K' ∧ (∀ j, j < m → Alike (K j) (K' j)) ∧ Below w.heap.size w w'
def TwV (w : World) (n : Nat) (z : Nat → Int) (v : Value) (w' : World) : Prop := ∃ g c, v = .slice (some ⟨g, 0, none⟩) n c ∧ w.heap.size ≤ g ∧ Own8 w' g n c z ∧ Below w.heap.size w w'
theorem TwinPost.twv {w w' : World} {n : Nat} {z : Nat → Int} {e : Ending} (h : TwinPost w n z e w') : ∃ v, e = .returned v ∧ TwV w n z v w' := by
  obtain ⟨g, c, rfl, h⟩ := h
  exact ⟨_, rfl, g, c, rfl, h⟩
set_option maxHeartbeats 8000000 in
set_option maxRecDepth 100000 in
theorem twinK_any (A : Option Addr) (m c : Nat) (K : Nat → It) (w : World) (h : RdK w A m K) (hm : m * 32 ≤ 140737488351232) :
    Calls Tryd.prog 17 #[.slice A m c] w (TwKP w m K) := by
  have HR := Lib.hid h
  have HM := Lib.hid hm
  clear h
  go_enter Tryd.func17, Tryd.ntmps17
  go_wp2_with fail
  go_loopw [3, 8] (fun v i wr => ∃ (k : Nat) (K' : Nat → It), k ≤ m ∧ i = .int .i64 k ∧ Hid (OwnK wr w.heap.size v k K') ∧ Hid (∀ j, j < k → Alike (K j) (K' j)) ∧ Hid (Below w.heap.size w wr)) (fun _ i _ => m - (intOf i).toNat)
  case atStart => exact ⟨0, K, by omega, rfl, Lib.hid (OwnK.nil _ _ _), Lib.hid (fun j hj => by omega), Lib.hid (Below.refl _ _)⟩
  case round =>
    obtain ⟨k, K', hk, rfl, HO, HAL, HB⟩ := hrel
    by_cases hlt : k < m
    · have hki : (k : Int) < (m : Int) := by omega
      obtain ⟨b, off, rfl, hr⟩ := (HR.out.below HB.out).1.row (by omega)
      have hr2 := Lib.hid (hr.2 k hlt)
      have HKE := Lib.hid ((HR.out.below HB.out).2 k hlt)
      clear hr
      obtain ⟨t, ht⟩ : ∃ t, K k = t := ⟨_, rfl⟩
      have HTT := Lib.hid ht
      rw [show kR K k = kC t from by unfold kR; rw [ht]] at hr2
      rw [ht] at HKE
      have hbb : b < wr.heap.size := by
        obtain ⟨b2, off2, e2, hr3⟩ := (HR.out.below HB.out).1.row (by omega)
        injection e2 with e2; injection e2 with e2 _ _; subst e2; exact hr3.1
      clear ht
      go_wp2_with (refine wpList_ld (op := ⟨some 11, _, _, _, _, _⟩) (by rfl) 45 (.tmp 10) rfl b (off + k * 2) rfl (kC t) _ hr2.out Tryd.underlying45 rfl info_key ?_; refine Hid.out ?_)
      refine Lib.hid ?_
      clear hr2
      have HO9 : Hid (OwKO wr w.heap.size u3 k K') := Lib.hid HO.out
      clear HO
      have HO := HO9
      clear HO9
      obtain ⟨N11, hN11⟩ : ∃ N, wr.heap.size = N := ⟨_, rfl⟩
      have HN11 := Lib.hid hN11
      clear hN11
      go_wp2_with (refine wpList_new (op := ⟨some 5, _, _, _, _, _⟩) rfl 45 rfl (#[.int .u16 0, .slice none 0 0]) zero_key N11 HN11.out ?_; intro w11 k1 b1 s1; refine Hid.out ?_)
      refine Lib.hid ?_
      have K5 := Lib.hid k1
      have HBN := Lib.hid b1
      have hN5 := HN11.out
      clear k1
      have le_HB_N11 : w.heap.size ≤ N11 := by rw [← HN11.out]; exact HB.out.size
      have HBn := Lib.hid (HB.out.trans (b1.mono HB.out.size))
      clear HB
      have HB := HBn
      clear HBn
      clear b1 HN11
      go_wp2_with (refine wpList_st rfl 45 (.tmp 5) (.tmp 11) rfl N11 0 rfl (.agg (kC t)) (kC t) rfl rfl info_key (kC_one _) K5.out (Nat.le_of_ble_eq_true rfl) (C' := kC t) (by rfl) ?_; intro w20 q1; refine Hid.out ?_)
      refine Lib.hid ?_
      have HO9 : Hid (OwKO w20 w.heap.size u3 k K') := Lib.hid (OwKO.below HO.out (HBN.out.trans (q1.2.1 _ (Nat.le_of_eq hN5))))
      have HNE : Hid (u3.ownBlock ≠ some N11) := Lib.hid (fun e => by have := (HO.out.1.lt _ e).2; omega)
      clear HO HBN hN5
      have HO := HO9
      clear HO9
      have HBn := Lib.hid (HB.out.trans (q1.2.1 _ (by omega)))
      clear HB
      have HB := HBn
      clear HBn
      have K5n : Hid (Blk 45 w20 N11 (kC t)) := Lib.hid q1.1
      clear K5
      have K5 := K5n
      clear K5n q1
      go_wp2_with fail
      have HOd : Hid (OwKO w20.drew w.heap.size u3 k K') := Lib.hid HO.out
      clear HO
      refine wp_region_held_drew (S := fun w' => Blk 45 w' N11 (kC t) ∧ Below w.heap.size w w') (by kernel_rfl) ⟨K5.out, HB.out.drew⟩ (fun hS => ?_)
      generalize hW31 : w20.drew = W31 at hS HOd ⊢
      clear hW31
      clear K5
      clear HB
      have HO := HOd
      clear HOd
      have K5 := Lib.hid hS.1
      have HB := Lib.hid hS.2
      refine takeY (i := 0) (some 12) (v := u3) rfl rfl (by kernel_rfl) (by kernel_rfl) (by kernel_rfl) (fun _ _ _ h => h) (by rfl) (fun w' hS => by go_simp) hS ?_
      simp only [Act.put, List.setIfInBounds_toArray, List.set_cons_zero, List.set_cons_succ]
      refine takeY (i := 1) (some 13) (v := .pointer (some ⟨N11, 0, none⟩)) rfl rfl (by kernel_rfl) (by kernel_rfl) (by kernel_rfl) (fun _ _ _ h => h) (by rfl) (fun w' hS => by go_simp) hS ?_
      simp only [Act.put, List.setIfInBounds_toArray, List.set_cons_zero, List.set_cons_succ]
      refine takeY (i := 2) (some 14) (v := .int .u16 t.ty) rfl rfl (by kernel_rfl) (by kernel_rfl) (by kernel_rfl) (fun _ _ _ h => h) (by rfl) (fun w' hS => by (have c9 : w'.cell? ⟨N11, 0, none⟩ = some (.int .u16 t.ty) := (hS.1.cell 0).trans rfl; clear hS; go_simp)) hS ?_
      simp only [Act.put, List.setIfInBounds_toArray, List.set_cons_zero, List.set_cons_succ]
      refine takeY (i := 3) (some 15) (v := .pointer (some ⟨N11, 1, none⟩)) rfl rfl (by kernel_rfl) (by kernel_rfl) (by kernel_rfl) (fun _ _ _ h => h) (by rfl) (fun w' hS => by go_simp) hS ?_
      simp only [Act.put, List.setIfInBounds_toArray, List.set_cons_zero, List.set_cons_succ]
      refine takeY (i := 4) (some 16) (v := .slice t.A t.n t.c) rfl rfl (by kernel_rfl) (by kernel_rfl) (by kernel_rfl) (fun _ _ _ h => h) (by rfl) (fun w' hS => by (have c9 : w'.cell? ⟨N11, 1, none⟩ = some (.slice t.A t.n t.c) := (hS.1.cell 1).trans rfl; clear hS; go_simp)) hS ?_
      simp only [Act.put, List.setIfInBounds_toArray, List.set_cons_zero, List.set_cons_succ]
      have HRD : Hid (Rd W31 t.A t.n t.z) := Lib.hid (by have := (HR.out.below HB.out).2 k hlt; rw [HTT.out] at this; exact this.2.1)
      refine takeCE (i := 5) (some 17) 27 #[.slice t.A t.n t.c] (R := fun v w' => TwV W31 t.n t.z v w') rfl rfl (by kernel_rfl) (by rfl) (by go_simp) ((twin_any t.A t.n t.c t.z W31 HRD.out HKE.out.2.2.1 (by have := HKE.out.2.2.2; omega)).mono fun e w' h => TwinPost.twv h) (fun v w' h => by obtain ⟨gs, cs, rfl, hgs, hos, hbs⟩ := h; exact ⟨hS.1.below hbs hS.1.lt, hS.2.trans (hbs.mono hS.2.size)⟩) (fun v W32 h hS2 => ?_)
      obtain ⟨gs, cs, rfl, hgs, hos, hbs⟩ := h
      clear hS2
      simp only [Act.put, List.setIfInBounds_toArray, List.set_cons_zero, List.set_cons_succ]
      have HKV : Hid (KvO W32 w.heap.size ⟨t.ty, some ⟨gs, 0, none⟩, t.n, cs, t.z⟩) := Lib.hid ⟨HKE.out.1, HKE.out.2.2.2, gs, rfl, Nat.le_trans HB.out.size hgs, hos⟩
      clear hgs hos HRD
      have HOn := Lib.hid (HO.out.below hbs)
      clear HO
      have HO := HOn
      clear HOn
      have K5n := Lib.hid (K5.out.below hbs K5.out.lt)
      clear K5
      have K5 := K5n
      clear K5n
      have HBn := Lib.hid (HB.out.trans (hbs.mono HB.out.size))
      clear HB
      have HB := HBn
      clear HBn
      clear hbs hS
      have hS := (And.intro K5.out HB.out)
      refine takeY (i := 6) (some 18) (v := .agg (kC ⟨t.ty, some ⟨gs, 0, none⟩, t.n, cs, t.z⟩)) rfl rfl (by kernel_rfl) (by kernel_rfl) (by kernel_rfl) (fun _ _ _ h => h) (by rfl) (fun w' hS => by exact build_key _ _ _ _ rfl ⟨t.ty, some ⟨gs, 0, none⟩, t.n, cs, t.z⟩ rfl rfl _) hS ?_
      simp only [Act.put, List.setIfInBounds_toArray, List.set_cons_zero, List.set_cons_succ]
      obtain ⟨N33, hN33⟩ : ∃ N, W32.heap.size = N := ⟨_, rfl⟩
      have HN33 := Lib.hid hN33
      clear hN33
      refine takeBsn (i := 7) (some 19) 1 45 (kC ⟨t.ty, some ⟨gs, 0, none⟩, t.n, cs, t.z⟩) rfl rfl (by kernel_rfl) (by rfl) (bs_key _ _ _ rfl ⟨t.ty, some ⟨gs, 0, none⟩, t.n, cs, t.z⟩ rfl) N33 HN33.out (fun W33 k1 b1 s1 => ⟨⟨hS.1.below b1 hS.1.lt, hS.2.trans (b1.mono hS.2.size)⟩, ?_⟩)
      simp only [Act.put, List.setIfInBounds_toArray, List.set_cons_zero, List.set_cons_succ]
      have KT : Hid (BlO 45 W33 N33 (kC ⟨t.ty, some ⟨gs, 0, none⟩, t.n, cs, t.z⟩)) := Lib.hid k1
      clear k1
      have HOn := Lib.hid (HO.out.below b1)
      clear HO
      have HO := HOn
      clear HOn
      have HKVn := Lib.hid (HKV.out.below b1)
      clear HKV
      have HKV := HKVn
      clear HKVn
      have K5n := Lib.hid (K5.out.below b1 K5.out.lt)
      clear K5
      have K5 := K5n
      clear K5n
      have HBn := Lib.hid (HB.out.trans (b1.mono HB.out.size))
      clear HB
      have HB := HBn
      clear HBn
      clear b1 hS HN33
      have hS := (And.intro K5.out HB.out)
      refine takeKp (i := 8) (some 20) (.tmp 12) (.tmp 19) rfl rfl (by kernel_rfl) (by rfl) rfl rfl HO.out rfl KT.out HKV.out (by have := HM.out; omega) HB.out ?_
      intro v9 W34 h9 hb9 hk9
      have K59 : Blk 45 W34 N11 (kC t) := (hk9 N11 K5.out.lt HNE.out).trans K5.out
      refine ⟨⟨K59, hb9⟩, ?_⟩
      simp only [Act.put, List.setIfInBounds_toArray, List.set_cons_zero, List.set_cons_succ]
      have HO9 := Lib.hid h9
      have HB9 := Lib.hid hb9
      have hS : Blk 45 W34 N11 (kC t) ∧ Below w.heap.size w W34 := ⟨K59, hb9⟩
      have hal : ∀ j, j < k + 1 → Alike (K j) (updT K' k ⟨t.ty, some ⟨gs, 0, none⟩, t.n, cs, t.z⟩ j) := fun j hj => by
        by_cases e : j = k
        · subst e; rw [updT_same, HTT.out]; exact ⟨rfl, rfl, rfl⟩
        · rw [updT_other _ _ _ _ e]; exact HAL.out j (by omega)
      have HAL9 := Lib.hid hal
      clear h9 hb9 hk9 K59 hal HO HB K5 KT HKV HAL
      refine takeY (i := 9) (some 3) (v := v9) rfl rfl (by kernel_rfl) (by kernel_rfl) (by kernel_rfl) (fun _ _ _ h => h) (by rfl) (fun w' hS => by go_simp) hS ?_
      simp only [Act.put, List.setIfInBounds_toArray, List.set_cons_zero, List.set_cons_succ]
      clear hS
      refine wpAnyH_done (by kernel_rfl) ?_ _
      go_wp2_with fail
      go_roundw
      case rel => exact ⟨k + 1, _, by omega, by go_num, HO9, HAL9, HB9⟩
      case measure => simp only [intOf]; omega
    · obtain rfl : k = m := by omega
      go_wp2_with fail
      go_ret
      exact ⟨_, K', rfl, HO.out, HAL.out, HB.out⟩
end Go.Proofs.YtccoicjmmeoggaaDoor
