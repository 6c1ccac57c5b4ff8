/- The walk of TlvJoins: for every input the law returns true, and nothing that was there is written. No condition. -/
import Derived.Test.YtpbippipmcpjeabTJoins
namespace Go.Proofs.Ytpbippipmcpjeab
open Go.RowKit
set_option linter.unusedVariables false

theorem RdT.cut {w : World} {A : Option Addr} {m k : Nat} {L : Nat → It} (h : RdT w A m L) (hk : k ≤ m) : RdT w A k L := by
  rcases h with h | ⟨b, off, rfl, h⟩
  · exact .inl (by omega)
  · exact .inr ⟨b, off, rfl, h.1, fun j hj => h.2 j (by omega)⟩
/-- the mark behind the list -/
def mark : It := ⟨77, none, 0, 0, fun _ => 0⟩
theorem mark_ok (w : World) : ItOk w mark := ⟨⟨by decide, by decide⟩, ⟨.inl rfl, fun _ => ⟨by simp [mark], by simp [mark]⟩⟩, fun _ => ⟨rfl, rfl⟩, by simp [mark]⟩
theorem alike_same {L L' : Nat → It} {m : Nat} (h : ∀ j, j < m → Alike (L j) (L' j)) : ∀ j, j < m → (L j).ty = (L' j).ty ∧ (L j).n = (L' j).n ∧ ∀ i, i < (L j).n → (L j).z i = (L' j).z i :=
  fun j hj => ⟨(h j hj).1, (h j hj).2.1, fun i _ => by rw [(h j hj).2.2]⟩
/-- the list with the mark appended can be read -/
theorem marked_rd {w w' : World} {base m : Nat} {v v' : Value} {L : Nat → It} (h : OwnT w base v m L) (hr : w'.ownsRow base 27 2 v' (m + 1) (cellsT L m ++ [.int .u8 77, .slice none 0 0])) (hg : w.grownBy w' v.ownBlock) :
    ∃ g c, v' = .slice (some ⟨g, 0, none⟩) (m + 1) c ∧ m + 1 ≤ c ∧ c ≤ maxLen ∧ base ≤ g ∧ g < w'.heap.size ∧ RdT w' (some ⟨g, 0, none⟩) (m + 1) (updT L m mark) := by
  have hr' : w'.ownsRow base 27 2 v' (m + 1) (cellsT (updT L m mark) (m + 1)) := by rw [cellsT_push]; exact hr
  rcases hr'.2 with ⟨_, h0⟩ | ⟨g, cap, cur, rfl, hb, hc, h1, h2, h3, h4⟩
  · omega
  · have hl := (Array.getElem?_eq_some_iff.1 hc).1
    refine ⟨g, cap, rfl, h1, h2, hb, hl, .inr ⟨g, 0, rfl, hl, fun j hj => ?_⟩⟩
    have hx := cellsT_at (updT L m mark) (m + 1) j hj
    rw [← h4, List.getElem?_take, if_pos (by omega), List.getElem?_take, if_pos (by omega)] at hx
    refine ⟨by rw [Nat.zero_add, cell_of_row w' g _ cur _ (0, 0) hc]; simpa using hx.1, by rw [Nat.zero_add, cell_of_row w' g _ cur _ (0, 0) hc]; simpa using hx.2, ?_⟩
    by_cases e : j = m
    · subst e; rw [updT_same]; exact mark_ok w'
    · rw [updT_other _ _ _ _ e]
      exact (ownV_grown (v' := v) (h.2 j (by omega)) h.1 hg).ok

theorem sz_small {L : Nat → It} {m : Nat} (h : JEnds L m m) : sz L m ≤ 1492 := by
  rcases Nat.eq_zero_or_pos m with h0 | h0
  · subst h0; simp [sz]
  · have := h.2.1 (m - 1) (by omega)
    unfold bad at this
    rw [show m - 1 + 1 = m by omega] at this
    omega

/-- what Join and DocJoin answer, the same for all ways -/
def UniPost (w : World) (L : Nat → It) (m m0 : Nat) (e : Ending) (w' : World) : Prop :=
  ∃ pA pn pc ee z, e = .returned (.tuple #[.slice pA pn pc, .int .i64 ee]) ∧ Rd w' pA pn z ∧ (pA = none → pn = 0 ∧ pc = 0) ∧ pn ≤ pc ∧ pc ≤ 9223372036854775807 ∧ pn ≤ 1492 ∧
    ((ee = 0 ∧ m0 = m ∧ pn = sz L m ∧ z = J L m) ∨ (ee = 2 ∧ m0 < m ∧ pn = 0)) ∧ Below w.heap.size w w'
theorem join_uni (A : Option Addr) (m c m0 : Nat) (L : Nat → It) (w : World) (h : RdT w A m L) (hc : m ≤ c) (hcm : c ≤ 9223372036854775807) (hm : JEnds L m m0) :
    Calls Try.prog 9 #[.slice A m c] w (UniPost w L m m0) := by
  refine (join_any A m c m0 L w h hc hcm hm).mono ?_
  rintro e w' (⟨rfl, g, cap, rfl, hg, ho, hb⟩ | ⟨hlt, rfl, hb⟩)
  · have := ho.caps
    unfold maxLen at this
    exact ⟨_, _, _, _, _, rfl, ho.rd, fun e => (by cases e), this.1, this.2, sz_small hm, .inl ⟨rfl, rfl, rfl, rfl⟩, hb⟩
  · exact ⟨_, _, _, _, fun _ => 0, rfl, ⟨.inl rfl, fun _ => by simp⟩, fun _ => ⟨rfl, rfl⟩, by omega, by omega, by omega, .inr ⟨rfl, hlt, rfl⟩, hb⟩
theorem docjoin_uni (A : Option Addr) (m c m0 : Nat) (L : Nat → It) (w : World) (h : RdT w A m L) (hc : m ≤ c) (hcm : c ≤ 9223372036854775807) (hm : JEnds L m m0) :
    Calls Try.prog 10 #[.slice A m c] w (UniPost w L m m0) := by
  refine (docjoin_any A m c m0 L w h hc hcm hm).mono ?_
  rintro e w' (⟨rfl, v, rfl, ho, hb⟩ | ⟨hlt, rfl, hb⟩)
  · have hz := J_bd L m0 (fun j hj => (by
        obtain ⟨b, off, rfl, hr⟩ := h.row (by omega)
        exact (hr.2 j hj).2.2.1)) (fun j hj => by
        have := hm.2.1 j hj
        unfold bad at this
        omega) (fun j hj => (by
        obtain ⟨b, off, rfl, hr⟩ := h.row (by omega)
        exact (hr.2 j hj).2.2.2.1.2))
    obtain ⟨pA, pc, rfl, h1, h2, h3, h4⟩ := ownsRow_rd ho hz
    unfold maxLen at h2
    exact ⟨_, _, _, _, _, rfl, h4, h3, h1, h2, sz_small hm, .inl ⟨rfl, rfl, rfl, rfl⟩, hb⟩
  · exact ⟨_, _, _, _, fun _ => 0, rfl, ⟨.inl rfl, fun _ => by simp⟩, fun _ => ⟨rfl, rfl⟩, by omega, by omega, by omega, .inr ⟨rfl, hlt, rfl⟩, hb⟩

set_option maxHeartbeats 1600000 in
set_option maxRecDepth 100000 in
theorem joins_any (A : Option Addr) (m c : Nat) (kind : Int) (L : Nat → It) (w : World) (h : RdT w A m L) (hA : A = none → m = 0 ∧ c = 0) (hc : m ≤ c) (hcb : c * 32 ≤ 140737488351232) :
    Calls Try.prog 3 #[.slice A m c, .int .u8 kind] w fun e w' => e = .returned (.bool true) ∧ Below w.heap.size w w' := by
  obtain ⟨i0, hi, hz0, hz1, hz2⟩ := info_parts info_tlv
  have HR := Lib.hid h
  obtain ⟨m0, hj⟩ := jends L m
  have HJE := Lib.hid hj
  have m1 : m + 1 ≤ maxLen := by unfold maxLen; omega
  have m2 : (m + 1) * 32 ≤ 140737488355328 := by omega
  clear h hA hj
  go_enter Try.func3, Try.ntmps3
  go_wp2_with fail
  refine (awake_any _).mono ?_
  rintro e w1 ⟨rfl, hb1⟩
  have HB1 := Lib.hid hb1
  have hs1 := hb1.size
  clear hb1
  go_wp2_with fail
  refine (twinT_any A m c L _ (HR.out.below HB1.out) (by omega)).mono ?_
  rintro e w2 ⟨v, L', rfl, hT, hAl, hb2⟩
  have HT := Lib.hid hT
  have HAl := Lib.hid hAl
  have HB2 := Lib.hid (HB1.out.trans (hb2.mono hs1))
  have hs2 := hb2.size
  clear hT hAl hb2
  go_wp2_with (at_builtin; refine wpList_append_own_at _ rfl (.tmp 19) (.tmp 21) 22 rfl w1.heap.size 27 i0 (.agg #[.int .u8 0, .slice none 0 0]) 2 32 Try.underlying22 hi hz0 hz1 hz2 rfl (by decide) v m _ rfl (HT.out.1.alloc _) ⟨w2.heap.size, 0, none⟩ 1 1 [.int .u8 77, .slice none 0 0] rfl rfl (two_new w2 _ _ _) (two_one _ _ _ _) m1 m2 (by simp; omega) ?_; intro v5 w3 hown3 hgrow3 hnil3 hat3; refine Hid.out ?_)
  refine Lib.hid ?_
  obtain ⟨g5, c5, rfl, hc5, hc5m, hg5, hg5l, hRd5⟩ := marked_rd (HT.out.below ((bself w2).alloc (Nat.le_refl _) _)) hown3 hgrow3
  have HB3 := Lib.hid ((HB2.out.alloc (by omega) _).grown hgrow3 (by simp; omega) (fun x e => Nat.le_trans hs1 (HT.out.1.lt x e).1))
  have hs3 : w2.heap.size + 1 ≤ w3.heap.size := by have := hgrow3.size; simpa using this
  have HRd := Lib.hid hRd5
  have hAl3 : ∀ j, j < m → Alike (L j) (updT L' m mark j) := fun j hj => by rw [updT_other _ _ _ _ (by omega)]; exact HAl.out j hj
  have HAl3 := Lib.hid hAl3
  have HMK := Lib.hid (show updT L' m mark m = mark from updT_same _ _ _)
  clear hown3 hgrow3 hnil3 hat3 hRd5 hAl3
  generalize hL3 : updT L' m mark = L3 at *
  clear hL3
  unfold maxLen at hc5m
  have q0 : ((m : Nat) : Int) ≤ (c5 : Int) := by omega
  have HJE3 := Lib.hid (jends_congr (fun j hj => (HAl3.out j hj).2.1) HJE.out)
  go_wp2_with fail
  refine (join_uni (some ⟨g5, 0, none⟩) m c5 m0 L3 _ (HRd.out.cut (by omega)) (by omega) (by omega) HJE3.out).mono ?_
  rintro e w4 ⟨pA, pn, pc, ee, pz, rfl, hp, hpA, hpc, hpcm, hpn, hcase, hb4⟩
  have HP := Lib.hid hp
  have HCase := Lib.hid hcase
  have HPA := Lib.hid hpA
  have HB4x := Lib.hid hb4
  have HB4 := Lib.hid (HB3.out.trans (hb4.mono (by omega)))
  have hs4 := hb4.size
  clear hp hpA hcase hb4
  go_wp2_with fail
  refine (docjoin_uni A m c m0 L _ (HR.out.below HB4.out) hc (by omega) HJE.out).mono ?_
  rintro e w5 ⟨qA, qn, qc, ff, qz, rfl, hq, hqA, hqc, hqcm, hqn, hcase2, hb5⟩
  have hef : ff = ee ∧ qn = pn ∧ ∀ j, j < pn → pz j = qz j := by
    rcases HCase.out with ⟨h1, h2, h3, h4⟩ | ⟨h1, h2, h3⟩ <;> rcases hcase2 with ⟨g1, g2, g3, g4⟩ | ⟨g1, g2, g3⟩
    · have := sz_congr (L := L) (L' := L3) (fun j hj => (HAl3.out j hj).2.1) m (Nat.le_refl _)
      refine ⟨by omega, by omega, fun j hj => ?_⟩
      rw [h4, g4]
      exact (J_congr (alike_same HAl3.out) m (Nat.le_refl _) j (by omega)).symm
    · omega
    · omega
    · exact ⟨by omega, by omega, fun j hj => by omega⟩
  obtain ⟨rfl, rfl, hzz⟩ := hef
  have HQ := Lib.hid hq
  have HZZ := Lib.hid hzz
  have HB5x := Lib.hid hb5
  have HB5 := Lib.hid (HB4.out.trans (hb5.mono (by omega)))
  have hs5 := hb5.size
  clear hq hqA hcase2 hb5 hzz
  have HP5 := Lib.hid (HP.out.below HB5x.out rfl)
  have HRd5 := Lib.hid ((HRd.out.below HB4x.out).below HB5x.out)
  go_wp2_with fail
  refine (of_any (some ⟨g5, 0, none⟩) m c5 kind L3 _ (HRd5.out.cut (by omega)) (by omega)).mono ?_
  rintro e w6 ⟨v6, K, rfl, hown6, hK, hb6⟩
  have HO6 := Lib.hid hown6
  have HK := Lib.hid hK
  have HB6x := Lib.hid hb6
  have HB6 := Lib.hid (HB5.out.trans (hb6.mono (by omega)))
  have hs6 := hb6.size
  clear hown6 hK hb6
  go_wp2_with fail
  refine (refof_any A m c kind L _ (HR.out.below HB6.out) (by omega)).mono ?_
  rintro e w7 ⟨v7, rfl, hown7, hb7⟩
  have hs7 := hb7.size
  have hcn : cnt L kind m = cnt L3 kind m := cnt_congr kind (fun j hj => (HAl3.out j hj).1) m (Nat.le_refl _)
  have hcl := cnt_le L3 kind m
  have HB7 := Lib.hid (HB6.out.trans (hb7.mono (by omega)))
  obtain ⟨vA7, vc7, rfl, h71, h72, h73, hV7⟩ := ownV_rd hown7 (fun j hj => by
    obtain ⟨i, hi', e⟩ := sel_from L kind m j hj
    rw [e]
    obtain ⟨b, off, rfl, hr⟩ := HR.out.row (by omega)
    exact ((hr.2 i hi').2.2.val).below (by exact HB7.out))
  have hO67 := ownsRow_below HO6.out hb7
  obtain ⟨vA6, vc6, rfl, h61, h62, h63, hV6⟩ := ownV_rd hO67 (fun j hj => ((HK.out j hj).1.below hb7).ok)
  rw [hcn] at hV7 ⊢
  have HSV := Lib.hid (samevals_yes vA6 vA7 (cnt L3 kind m) vc6 vc7 K (Sel L kind m) w7 hV6 hV7 (fun j hj => by
    obtain ⟨_, h2, h3⟩ := HK.out j hj
    obtain ⟨g2, g3⟩ := sel_congr kind HAl3.out m (Nat.le_refl _) j (by omega)
    exact ⟨by rw [h2, g2], fun i _ => by rw [h3, g3]⟩) (by omega))
  have HW := Lib.hid (show OwnWV w7 w5.heap.size (.slice vA6 (cnt L3 kind m) vc6) (cnt L3 kind m) K from ⟨hO67, fun j hj => by
    obtain ⟨h1, _, _⟩ := HK.out j hj
    rcases (h1.below hb7).1 with ⟨_, h0, _⟩ | ⟨g, e1, e2, e3⟩
    · exact .inl h0
    · exact .inr ⟨g, e1, e2, _, e3⟩⟩)
  have HB57 := Lib.hid (HB6x.out.trans (hb7.mono hs6))
  unfold maxLen at h62
  have hKb : ∀ j, j < cnt L3 kind m → (K j).n ≤ 140737488351232 := fun j hj => (HK.out j hj).1.2.1
  have HKb := Lib.hid hKb
  clear hown7 hb7 h71 h72 h73 hV7 hV6 hO67 hcn h63 hKb
  generalize hqq : cnt L3 kind m = q at *
  clear hqq
  go_wp2_with fail
  refine (HSV.out).mono ?_
  rintro e w8 ⟨rfl, r, rfl⟩
  go_wp2_with fail
  have hB0 := Lib.hid (show Below w5.heap.size w7 (w7.drewN r) from bdrewN (Below.refl _ _) r)
  have HW0 := Lib.hid (HW.out.drew r)
  go_loopw [49] (fun i wr => ∃ k : Nat, k ≤ q ∧ i = .int .i64 k ∧ OwnWV wr w5.heap.size (.slice vA6 q vc6) q K ∧ Below w5.heap.size w7 wr)
    (fun i _ => q - (intOf i).toNat)
  case atStart => exact ⟨0, by omega, rfl, HW0.out, hB0.out⟩
  case round =>
    obtain ⟨k, hk, rfl, hOW, hB⟩ := hrel
    by_cases hkm : k < q
    · obtain ⟨b, lc2, he, hc1, hby⟩ := hOW.at k hkm
      have hnk := HKb.out k hkm
      have HOW := Lib.hid hOW
      injection he with he1 he2 he3
      subst he1
      subst he3
      clear hOW hby
      go_wp2_with fail
      clear hc1
      go_loopw [57] (fun i wr => ∃ x : Nat, x ≤ (K k).n ∧ i = .int .i64 x ∧ OwnWV wr w5.heap.size (.slice (some ⟨b, 0, none⟩) q vc6) q K ∧ Below w5.heap.size w7 wr)
        (fun i _ => (K k).n - (intOf i).toNat)
      case atStart => exact ⟨0, by omega, rfl, HOW.out, hB⟩
      case round =>
        obtain ⟨x, hx, rfl, hOW, hB⟩ := hrel
        by_cases hqn : x < (K k).n
        · obtain ⟨b', lc2, he, hc1, hby'⟩ := hOW.at k hkm
          obtain ⟨gk', hA1, hgk', hby⟩ := hby' (by omega)
          injection he with he1 he2 he3
          injection he1 with he1
          injection he1 with he1
          subst he1
          obtain ⟨y, hx0, hx1, hcx, hfx⟩ := hby x hqn
          have hxb := xor1_bd y ⟨hx0, hx1⟩
          have HP := Lib.hid (hOW.put k hkm (by omega) gk' hA1 x _ hxb)
          have HBP := Lib.hid (hB.setCell (p := ⟨gk', x, none⟩) hgk' (.int .u8 (bits .xor .u8 y 1)))
          rw [hA1] at hc1
          clear hOW hB hby hby' hA1 he3
          generalize hnn : (K k).n = nk at *
          generalize hcc : (K k).c = ck at *
          go_wp2
          go_roundw
          case rel => exact ⟨x + 1, by omega, by go_num, HP.out, HBP.out⟩
          case measure => simp only [intOf]; omega
        · obtain rfl : x = (K k).n := by omega
          have HOW2 := Lib.hid hOW
          clear hOW
          go_wp2
          go_roundw
          case rel => exact ⟨k + 1, by omega, by go_num, HOW2.out, hB⟩
          case measure => simp only [intOf]; omega
    · obtain rfl : k = q := by omega
      have HBw := Lib.hid ((show Below w5.heap.size w5 w7 from HB57.out).trans hB)
      have HBa := Lib.hid (HB5.out.trans (HBw.out.mono (by omega)))
      have hmk : wr.cell? ⟨g5, m * 2, none⟩ = some (.int .u8 77) := by
        obtain ⟨b, off, e, hr⟩ := (HRd5.out.below HBw.out).row (by omega)
        injection e with e
        injection e with e1 e2
        subst e1 e2
        have := (hr.2 m (by omega)).1
        rw [HMK.out] at this
        simpa [mark] using this
      have q2 : (m : Int) < (m : Int) + 1 := by omega
      clear hOW hB
      rcases HCase.out with ⟨rfl, hm0, hpn0, hpz⟩ | ⟨rfl, hm0, hpn0⟩
      · have HPN := Lib.hid hpn0
        have HPZ := Lib.hid hpz
        clear hpz hpn0 hm0
        go_wp2_with fail
        refine (same_yes pA qA qn pc qc pz qz _ (HP5.out.below HBw.out rfl) (HQ.out.below HBw.out rfl) HZZ.out (by omega)).mono ?_
        rintro e w9 ⟨rfl, r1, rfl⟩
        go_wp2_with fail
        refine (sameL_yes (some ⟨g5, 0, none⟩) A m c5 c L3 L _ (by exact (HRd5.out.below (bdrewN HBw.out r1)).cut (by omega)) (by exact HR.out.below (bdrewN HBa.out r1)) (alike_same (fun j hj => ⟨(HAl3.out j hj).1.symm, (HAl3.out j hj).2.1.symm, (HAl3.out j hj).2.2.symm⟩)) (by omega)).mono ?_
        rintro e w10 ⟨rfl, r2, rfl⟩
        have hE : Ends (J L3 m) (sz L3 m) m := ⟨by rw [J_pos L3 m m (Nat.le_refl _)]; exact Nat.le_refl _, .inl (J_pos L3 m m (Nat.le_refl _))⟩
        have HEE := Lib.hid hE
        clear hE
        go_wp2_with fail
        refine (split_any pA qn pc m (J L3 m) _ (by rw [← HPZ.out]; exact HP5.out.below (bdrewN HBw.out (r1 + r2)) rfl) HPA.out hpn hpc hpcm (by rw [HPN.out]; exact HEE.out)).mono ?_
        rintro e w11 (⟨_, v11, L11, rfl, hT11, hI11, hb11⟩ | ⟨hne, _⟩)
        case inr => exact absurd ((J_pos L3 m m (Nat.le_refl _)).trans HPN.out.symm) hne
        obtain ⟨A11, c11, rfl, h111, h112, h113, hR11⟩ := hT11.shape
        have HSL := Lib.hid (sameL_yes A11 A m c11 c L11 L w11 hR11 (HR.out.below (by exact (bdrewN HBa.out (r1 + r2)).trans (hb11.mono (by exact HBa.out.size)))) (fun j hj => by
          obtain ⟨g1, g2, g3⟩ := J_back hI11 j hj
          obtain ⟨a1, a2, a3⟩ := HAl3.out j hj
          exact ⟨by rw [g1, a1], by rw [g2, a2], fun i hi => by rw [g3 i hi, a3]⟩) (by omega))
        have HB11 := Lib.hid (show Below w.heap.size w w11 from (bdrewN HBa.out (r1 + r2)).trans (hb11.mono (by exact HBa.out.size)))
        clear hT11 hI11 hb11 hR11 h111 h112 h113
        go_wp2_with fail
        refine (HSL.out).mono ?_
        rintro e w12 ⟨rfl, r3, rfl⟩
        go_wp2
        go_ret
        exact ⟨rfl, bdrewN HB11.out r3⟩
      · clear hpn0 hm0
        go_wp2_with fail
        refine (same_yes pA qA qn pc qc pz qz _ (HP5.out.below HBw.out rfl) (HQ.out.below HBw.out rfl) HZZ.out (by omega)).mono ?_
        rintro e w9 ⟨rfl, r1, rfl⟩
        go_wp2_with fail
        refine (sameL_yes (some ⟨g5, 0, none⟩) A m c5 c L3 L _ (by exact (HRd5.out.below (bdrewN HBw.out r1)).cut (by omega)) (by exact HR.out.below (bdrewN HBa.out r1)) (alike_same (fun j hj => ⟨(HAl3.out j hj).1.symm, (HAl3.out j hj).2.1.symm, (HAl3.out j hj).2.2.symm⟩)) (by omega)).mono ?_
        rintro e w10 ⟨rfl, r2, rfl⟩
        go_wp2
        go_ret
        exact ⟨rfl, bdrewN HBa.out (r1 + r2)⟩

theorem walkTlvJoins (A : Option Addr) (m c : Nat) (L : Nat → It) (kind : Int) (w : World) (h : RdT w A m L ∧ (A = none → m = 0 ∧ c = 0) ∧ m ≤ c ∧ c * 32 ≤ 140737488351232) (hk : (Lit.int .u8 kind).wf = true) :
    Calls Try.prog 3 #[.slice A m c, .int .u8 kind] w fun e w' => e = .returned (.bool true) ∧ Below w.heap.size w w' :=
  joins_any A m c kind L w h.1 h.2.1 h.2.2.1 h.2.2.2
end Go.Proofs.Ytpbippipmcpjeab
