/- The walk of TlvSplits: for every input the law returns true, and nothing that was there is written. No condition. -/
import Derived.Test.YtpbippipmcpjeabTFlip
namespace Go.Proofs.Ytpbippipmcpjeab
open Go.RowKit
set_option linter.unusedVariables false

theorem rd_spz {w : World} {g n cap : Nat} {z : Nat → Int} (h : Own8 w g (n + 3) cap (spZ z n)) (hz : ∀ j, 0 ≤ z j ∧ z j ≤ 255) : Rd w (some ⟨g, 0, none⟩) n z := by
  refine ⟨.inr ⟨g, 0, rfl, h.lt, fun j hj => ?_, hz⟩, hz⟩
  have := h.row.2.1 j (by omega)
  rwa [spZ_in z n j hj] at this

/-- items of bytes: each is short enough, and all are as long as the bytes -/
theorem isitz_sz {z : Nat → Int} {L : Nat → It} {m : Nat} (h : IsItZ z L m) : ∀ k, k ≤ m → sz L k = pos z k := by
  intro k hk
  induction k with
  | zero => rfl
  | succ k ih =>
    obtain ⟨g, cap, e⟩ := h k (by omega)
    simp only [sz, pos, ih (by omega), e, itZ]
    omega
theorem isitz_J {z : Nat → Int} {L : Nat → It} {m : Nat} (h : IsItZ z L m) (hz : ∀ j, 0 ≤ z j ∧ z j ≤ 255) : ∀ k, k ≤ m → ∀ j, j < pos z k → J L k j = z j := by
  intro k hk
  induction k with
  | zero => intro j hj; simp [pos] at hj
  | succ k ih =>
    obtain ⟨g, cap, e⟩ := h k (by omega)
    have hs := isitz_sz h k (by omega)
    intro j hj
    have h1 := hz (pos z k + 1)
    simp only [J, hs]
    unfold cat
    split
    · split
      · exact ih (by omega) j (by omega)
      · unfold two
        split
        · rw [e]; show z (pos z k) = _; congr 1; omega
        · rw [e]; show (((z (pos z k + 1)).toNat : Nat) : Int) = _
          rw [show j = pos z k + 1 by omega]; omega
    · rw [e]; show z (pos z k + 2 + (j - (pos z k + 2))) = _; congr 1; omega
theorem isitz_ends {z : Nat → Int} {L : Nat → It} {m n : Nat} (h : IsItZ z L m) (hz : ∀ j, 0 ≤ z j ∧ z j ≤ 255) (hm : pos z m = n) (hn : n ≤ 1492) : JEnds L m m := by
  refine ⟨Nat.le_refl _, fun k hk => ?_, .inl rfl⟩
  obtain ⟨g, cap, e⟩ := h k hk
  have h1 := isitz_sz h (k + 1) (by omega)
  have h2 := pos_mono z (k + 1) m (by omega)
  have h3 := hz (pos z k + 1)
  unfold bad
  rw [h1, e]
  show ¬ (255 < (z (pos z k + 1)).toNat ∨ _)
  omega
theorem isitz_same {z : Nat → Int} {L L' : Nat → It} {m : Nat} (h : IsItZ z L m) (h' : IsItZ z L' m) : ∀ j, j < m → (L j).ty = (L' j).ty ∧ (L j).n = (L' j).n ∧ ∀ i, i < (L j).n → (L j).z i = (L' j).z i := by
  intro j hj
  obtain ⟨g, cap, e⟩ := h j hj
  obtain ⟨g', cap', e'⟩ := h' j hj
  rw [e, e']
  exact ⟨rfl, rfl, fun i _ => rfl⟩

set_option maxHeartbeats 4000000 in
set_option maxRecDepth 100000 in
theorem splits_long (A : Option Addr) (n c : Nat) (z : Nat → Int) (w : World) (h : Rd w A n z) (hA : A = none → n = 0 ∧ c = 0) (hc : n ≤ c) (hn : n ≤ 140737488351232) (hl : 1492 < n) :
    Calls Try.prog 4 #[.slice A n c] w fun e w' => e = .returned (.bool true) ∧ Below w.heap.size w w' := by
  have HR := Lib.hid h
  have HA := Lib.hid hA
  clear h hA
  go_enter Try.func4, Try.ntmps4
  go_wp2_with fail
  refine (awake_any _).mono ?_
  rintro e w1 ⟨rfl, hb1⟩
  go_wp2_with fail
  refine (spare_any A n c z _ (HR.out.below hb1 rfl) HA.out hn).mono ?_
  rintro e w2 ⟨g, cap, rfl, hg, ho, hb2⟩
  have hb12 := Lib.hid (hb1.trans (hb2.mono hb1.size))
  have hO := Lib.hid ho
  clear hb1 hb2 ho
  go_wp2_with fail
  refine (split_long _ n _ _ hl).mono ?_
  rintro e w3 ⟨rfl, rfl⟩
  go_wp2_with fail
  refine (docsplit_long _ n _ _ hl).mono ?_
  rintro e w3 ⟨rfl, rfl⟩
  go_wp2_with fail
  refine (sameL_yes none none 0 0 0 (fun _ => ⟨0, none, 0, 0, z⟩) (fun _ => ⟨0, none, 0, 0, z⟩) _ (.inl rfl) (.inl rfl) (fun j hj => by omega) (by omega)).mono ?_
  rintro e w3 ⟨rfl, r, rfl⟩
  go_wp2_with fail
  refine wp_loop_rounds 1 ?_
  rw [rounds_succ]
  go_wp2_with fail
  refine (kept_yes g n cap A c z _ (by exact hO.out) (HR.out.below (by exact bdrewN hb12.out r) rfl) hn).mono ?_
  rintro e w4 ⟨rfl, r', rfl⟩
  go_wp2
  go_ret
  exact ⟨rfl, bdrewN hb12.out (r + r')⟩

set_option maxHeartbeats 4000000 in
set_option maxRecDepth 100000 in
theorem splits_err (A : Option Addr) (n c m : Nat) (z : Nat → Int) (w : World) (h : Rd w A n z) (hA : A = none → n = 0 ∧ c = 0) (hc : n ≤ c) (hcm : c ≤ 9223372036854775807) (hl : n ≤ 1492) (hm : Ends z n m) (he : pos z m ≠ n) :
    Calls Try.prog 4 #[.slice A n c] w fun e w' => e = .returned (.bool true) ∧ Below w.heap.size w w' := by
  have HR := Lib.hid h
  have HA := Lib.hid hA
  have HM := Lib.hid hm
  have HE := Lib.hid he
  clear h hA hm he
  go_enter Try.func4, Try.ntmps4
  go_wp2_with fail
  refine (awake_any _).mono ?_
  rintro e w1 ⟨rfl, hb1⟩
  go_wp2_with fail
  refine (spare_any A n c z _ (HR.out.below hb1 rfl) HA.out (by omega)).mono ?_
  rintro e w2 ⟨g, cap, rfl, hg, ho, hb2⟩
  have hcap := ho.caps
  unfold maxLen at hcap
  have hb12 := Lib.hid (hb1.trans (hb2.mono hb1.size))
  have hO := Lib.hid ho
  clear hb1 hb2 ho
  go_wp2_with fail
  refine (split_any (some ⟨g, 0, none⟩) n cap m z _ (rd_spz hO.out HR.out.2) (fun e => by cases e) hl (by omega) (by omega) HM.out).mono ?_
  rintro e w3 (⟨h, _⟩ | ⟨_, rfl, hb3⟩)
  · exact absurd h HE.out
  have HB3 := Lib.hid hb3
  have hb13 := Lib.hid (hb12.out.trans (hb3.mono hb12.out.size))
  clear hb3
  go_wp2_with fail
  refine (docsplit_any A n c m z _ (HR.out.below hb13.out rfl) HA.out hl hc hcm HM.out).mono ?_
  rintro e w4 (⟨h, _⟩ | ⟨_, rfl, hb4⟩)
  · exact absurd h HE.out
  have hb14 := Lib.hid (hb13.out.trans (hb4.mono hb13.out.size))
  have hO4 := Lib.hid ((hO.out.below HB3.out hO.out.lt).below hb4 (hO.out.below HB3.out hO.out.lt).lt)
  clear hb4
  go_wp2_with fail
  refine (sameL_yes none none 0 0 0 (fun _ => ⟨0, none, 0, 0, z⟩) (fun _ => ⟨0, none, 0, 0, z⟩) _ (.inl rfl) (.inl rfl) (fun j hj => by omega) (by omega)).mono ?_
  rintro e w5 ⟨rfl, r, rfl⟩
  go_wp2_with fail
  refine wp_loop_rounds 1 ?_
  rw [rounds_succ]
  go_wp2_with fail
  refine (kept_yes g n cap A c z _ (by exact hO4.out) (HR.out.below (by exact bdrewN hb14.out r) rfl) (by omega)).mono ?_
  rintro e w6 ⟨rfl, r', rfl⟩
  go_wp2
  go_ret
  exact ⟨rfl, bdrewN hb14.out (r + r')⟩

set_option maxHeartbeats 4000000 in
set_option maxRecDepth 100000 in
theorem splits_ok (A : Option Addr) (n c m : Nat) (z : Nat → Int) (w : World) (h : Rd w A n z) (hA : A = none → n = 0 ∧ c = 0) (hc : n ≤ c) (hcm : c ≤ 9223372036854775807) (hl : n ≤ 1492) (hm : Ends z n m) (he : pos z m = n) :
    Calls Try.prog 4 #[.slice A n c] w fun e w' => e = .returned (.bool true) ∧ Below w.heap.size w w' := by
  have HR := Lib.hid h
  have HA := Lib.hid hA
  have HM := Lib.hid hm
  have HE := Lib.hid he
  have hmn : 2 * m ≤ n := by have := pos_mono z 0 m (by omega); simp only [pos] at this; omega
  clear h hA hm he
  go_enter Try.func4, Try.ntmps4
  go_wp2_with fail
  refine (awake_any _).mono ?_
  rintro e w1 ⟨rfl, hb1⟩
  go_wp2_with fail
  refine (spare_any A n c z _ (HR.out.below hb1 rfl) HA.out (by omega)).mono ?_
  rintro e w2 ⟨g, cap, rfl, hg, ho, hb2⟩
  have hcap := ho.caps
  unfold maxLen at hcap
  have hb12 := Lib.hid (hb1.trans (hb2.mono hb1.size))
  have hO := Lib.hid ho
  clear hb1 hb2 ho
  go_wp2_with fail
  refine (split_any (some ⟨g, 0, none⟩) n cap m z _ (rd_spz hO.out HR.out.2) (fun e => by cases e) hl (by omega) (by omega) HM.out).mono ?_
  rintro e w3 (⟨_, v, L, rfl, hT, hI, hb3⟩ | ⟨h, _⟩)
  case inr => exact absurd HE.out h
  have HB3 := Lib.hid hb3
  have hb13 := Lib.hid (hb12.out.trans (hb3.mono hb12.out.size))
  have HI := Lib.hid hI
  have HT := Lib.hid hT
  clear hb3 hI hT
  go_wp2_with fail
  refine (docsplit_any A n c m z _ (HR.out.below hb13.out rfl) HA.out hl hc hcm HM.out).mono ?_
  rintro e w4 (⟨_, v', L', rfl, hT', hI', hb4⟩ | ⟨h, _⟩)
  case inr => exact absurd HE.out h
  have hb14 := Lib.hid (hb13.out.trans (hb4.mono hb13.out.size))
  have hO3 := hO.out.below HB3.out hO.out.lt
  have hO4 := Lib.hid (hO3.below hb4 hO3.lt)
  have hT4 := HT.out.below hb4
  obtain ⟨lA, lc, rfl, hlc1, hlc2, hlc3, hRd⟩ := hT4.shape
  obtain ⟨lA', lc', rfl, hlc1', hlc2', hlc3', hRd'⟩ := hT'.shape
  unfold maxLen at hlc2
  have HT4 := Lib.hid hT4
  have HS := Lib.hid (sameL_yes lA lA' m lc lc' L L' w4 hRd hRd' (isitz_same HI.out hI') (by omega))
  have HRd := Lib.hid hRd
  clear hb4 hO3 hT4 hT' hI' hRd hRd' hlc3 hlc3' hlc1' hlc2'
  go_wp2_with fail
  refine (HS.out).mono ?_
  rintro e w5 ⟨rfl, r, rfl⟩
  go_wp2_with fail
  refine (join_any lA m lc m L _ (by exact HRd.out) hlc1 (by omega) (isitz_ends HI.out HR.out.2 HE.out hl)).mono ?_
  rintro e w6 (⟨_, g6, cap6, rfl, hg6, ho6, hb6⟩ | ⟨h, _⟩)
  case inr => omega
  have hsz : sz L m = n := (isitz_sz HI.out m (Nat.le_refl _)).trans HE.out
  rw [hsz] at ho6 ⊢
  clear hsz
  have hcap6 := ho6.caps
  unfold maxLen at hcap6
  have HO6 := Lib.hid ho6
  have hb46 : Below w4.heap.size w4 w6 := (bdrewN (bself w4) r).trans hb6
  have HB46 := Lib.hid hb46
  have hb16 := Lib.hid (hb14.out.trans (hb46.mono hb14.out.size))
  clear hb6 ho6 hb46
  go_wp2_with fail
  refine (same_yes (some ⟨g6, 0, none⟩) A n cap6 c (J L m) z _ (by exact HO6.out.rd) (HR.out.below (by exact hb16.out) rfl) (fun j hj => isitz_J HI.out HR.out.2 m (Nat.le_refl _) j (by rw [HE.out]; exact hj)) (by omega)).mono ?_
  rintro e w7 ⟨rfl, r2, rfl⟩
  go_wp2_with fail
  have hW := (HT4.out.below HB46.out).whichever.drew r2
  have hO6 := Lib.hid (hO4.out.below HB46.out hO4.out.lt)
  have hg2 := Lib.hid hO.out.lt
  have hn140 : ∀ j, j < m → (L j).n ≤ 255 := fun j hj => by
    obtain ⟨g, cap, e⟩ := HI.out j hj
    have := HR.out.2 (pos z j + 1)
    rw [e]; show (z (pos z j + 1)).toNat ≤ 255
    omega
  have HN := Lib.hid hn140
  have hB0 := Lib.hid (show Below w2.heap.size w6 (w6.drewN r2) from bdrewN (Below.refl _ _) r2)
  have hw2 := hb12.out.size
  clear hn140
  go_loopw [56] (fun i wr => ∃ k : Nat, k ≤ m ∧ i = .int .i64 k ∧ OwnW wr w2.heap.size (.slice lA m lc) m L ∧ Below w2.heap.size w6 wr)
    (fun i _ => m - (intOf i).toNat)
  case atStart => exact ⟨0, by omega, rfl, hW, hB0.out⟩
  case round =>
    obtain ⟨k, hk, rfl, hOW, hB⟩ := hrel
    by_cases hkm : k < m
    · obtain ⟨b, lc2, gk, he, hc1, hA1, hgk, hby⟩ := hOW.at k hkm
      have hnk := HN.out k hkm
      have HA1 := Lib.hid hA1
      have HOW := Lib.hid hOW
      injection he with he1 he2 he3
      subst he1
      subst he3
      clear hA1 hOW hby hW
      go_wp2_with fail
      clear hc1
      go_loopw [65] (fun i wr => ∃ q : Nat, q ≤ (L k).n ∧ i = .int .i64 q ∧ OwnW wr w2.heap.size (.slice (some ⟨b, 0, none⟩) m lc) m L ∧ Below w2.heap.size w6 wr)
        (fun i _ => (L k).n - (intOf i).toNat)
      case atStart => exact ⟨0, by omega, rfl, HOW.out, hB⟩
      case round =>
        obtain ⟨q, hq, rfl, hOW, hB⟩ := hrel
        by_cases hqn : q < (L k).n
        · obtain ⟨b', lc2, gk', he, hc1, hA1, hgk', hby⟩ := hOW.at k hkm
          injection he with he1 he2 he3
          injection he1 with he1
          injection he1 with he1
          subst he1
          obtain ⟨x, hx0, hx1, hcx, hfx⟩ := hby q hqn
          have hxb := xor1_bd x ⟨hx0, hx1⟩
          have HP := Lib.hid (hOW.put k hkm gk' hA1 q _ hxb)
          have HBP := Lib.hid (hB.setCell (p := ⟨gk', q, none⟩) hgk' (.int .u8 (bits .xor .u8 x 1)))
          clear hOW hB hby hA1 he3
          generalize hnn : (L k).n = nk at *
          generalize hcc : (L k).c = ck at *
          go_wp2
          go_roundw
          case rel => exact ⟨q + 1, by omega, by go_num, HP.out, HBP.out⟩
          case measure => simp only [intOf]; omega
        · obtain rfl : q = (L k).n := by omega
          have HOW2 := Lib.hid hOW
          clear hOW
          go_wp2
          go_roundw
          case rel => exact ⟨k + 1, by omega, by go_num, HOW2.out, hB⟩
          case measure => simp only [intOf]; omega
    · obtain rfl : k = m := by omega
      have HB := Lib.hid hB
      clear hOW hB hW
      go_wp2_with fail
      refine (kept_yes g n cap A c z _ (hO6.out.below HB.out hg2.out) (HR.out.below ((hb16.out.trans (HB.out.mono hw2))) rfl) (by omega)).mono ?_
      rintro e w8 ⟨rfl, r', rfl⟩
      go_wp2
      go_ret
      exact ⟨rfl, bdrewN (hb16.out.trans (HB.out.mono hw2)) r'⟩

theorem walkTlvSplits (A : Option Addr) (n c : Nat) (zs : List Int) (w : World) (h : IsRow .u8 w A n c zs) (hs : c * 1 ≤ 140737488351232) :
    Calls Try.prog 4 #[.slice A n c] w fun e w' => e = .returned (.bool true) ∧ Below w.heap.size w w' := by
  obtain ⟨hR, hA⟩ := isRow_rd h
  have hc := (isRow_len h).1
  have hn : n ≤ 140737488351232 := by omega
  have hcm : c ≤ 9223372036854775807 := by omega
  by_cases hl : n ≤ 1492
  · obtain ⟨m, hm⟩ := pos_cases (fun j => zs.getD j 0) n
    by_cases he : pos (fun j => zs.getD j 0) m = n
    · exact splits_ok A n c m _ w hR hA hc hcm hl hm he
    · exact splits_err A n c m _ w hR hA hc hcm hl hm he
  · exact splits_long A n c _ w hR hA hc hn (by omega)
end Go.Proofs.Ytpbippipmcpjeab
