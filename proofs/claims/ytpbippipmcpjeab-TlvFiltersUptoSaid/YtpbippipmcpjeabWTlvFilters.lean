/- The walk of TlvFilters: for every two lists of at most 1048576 each the law returns true, and nothing that was there is written. -/
import Derived.Test.YtpbippipmcpjeabTApp
namespace Go.Proofs.Ytpbippipmcpjeab
open Go.RowKit
set_option linter.unusedVariables false

/-- how many have one of the first j types -/
def tot (L : Nat → It) (m : Nat) : Nat → Nat
  | 0 => 0
  | j + 1 => tot L m j + cnt L (j : Int) m
theorem tot_le (L : Nat → It) (m j : Nat) : tot L m j ≤ j * m := by
  induction j with
  | zero => simp [tot]
  | succ j ih => have := cnt_le L (j : Int) m; simp only [tot, Nat.succ_mul]; omega
theorem tot_succ (L : Nat → It) (m j : Nat) (h : 0 ≤ (L m).ty) : tot L (m + 1) j = tot L m j + if (L m).ty < (j : Int) then 1 else 0 := by
  induction j with
  | zero => simp only [tot]; rw [if_neg (by omega)]
  | succ j ih =>
    simp only [tot, ih, cnt]
    by_cases h1 : (L m).ty = (j : Int)
    · rw [if_pos h1, if_neg (by omega), if_pos (by omega)]; omega
    · rw [if_neg h1]
      by_cases h2 : (L m).ty < (j : Int)
      · rw [if_pos h2, if_pos (by omega)]; omega
      · rw [if_neg h2, if_neg (by omega)]; omega
theorem tot_all (L : Nat → It) (m : Nat) (h : ∀ j, j < m → 0 ≤ (L j).ty ∧ (L j).ty ≤ 255) : tot L m 256 = m := by
  induction m with
  | zero => have := tot_le L 0 256; omega
  | succ m ih =>
    have h1 := h m (by omega)
    rw [tot_succ L m 256 h1.1, ih (fun j hj => h j (by omega)), if_pos (by omega)]

theorem cnt_cat (L M : Nat → It) (kind : Int) (m : Nat) : ∀ k, cnt (catT L m M) kind (m + k) = cnt L kind m + cnt M kind k := by
  intro k
  induction k with
  | zero => simpa [cnt] using cnt_congr kind (L := catT L m M) (L' := L) (m := m) (fun j hj => by rw [catT_lo _ _ _ _ hj]) m (Nat.le_refl _)
  | succ k ih =>
    rw [← Nat.add_assoc]
    simp only [cnt, ih, catT_hi]
    split <;> omega
theorem sel_cat (L M : Nat → It) (kind : Int) (m : Nat) : ∀ k, ∀ i, i < cnt L kind m + cnt M kind k → (Sel (catT L m M) kind (m + k) i).n = (catT (Sel L kind m) (cnt L kind m) (Sel M kind k) i).n ∧ (Sel (catT L m M) kind (m + k) i).z = (catT (Sel L kind m) (cnt L kind m) (Sel M kind k) i).z := by
  intro k
  induction k with
  | zero =>
    intro i hi
    simp only [cnt, Nat.add_zero] at hi
    rw [catT_lo _ _ _ _ hi]
    have := sel_congr kind (L := catT L m M) (L' := L) (m := m) (fun j hj => by rw [catT_lo _ _ _ _ hj]; exact ⟨rfl, rfl, rfl⟩) m (Nat.le_refl _) i (by
      rw [cnt_congr kind (L := catT L m M) (L' := L) (m := m) (fun j hj => by rw [catT_lo _ _ _ _ hj]) m (Nat.le_refl _)]; exact hi)
    simpa using this
  | succ k ih =>
    intro i hi
    rw [← Nat.add_assoc]
    simp only [Sel, catT_hi, cnt_cat]
    simp only [cnt] at hi
    by_cases h : (M k).ty = kind
    · rw [if_pos h] at hi
      rw [if_pos h, if_pos h]
      by_cases e : i = cnt L kind m + cnt M kind k
      · subst e
        rw [updT_same, catT_hi, updT_same]
        exact ⟨rfl, rfl⟩
      · rw [updT_other _ _ _ _ e]
        have := ih i (by omega)
        rw [this.1, this.2]
        unfold catT
        split
        · exact ⟨rfl, rfl⟩
        · rw [updT_other _ _ _ _ (by omega)]; exact ⟨rfl, rfl⟩
    · rw [if_neg h] at hi
      rw [if_neg h, if_neg h]
      exact ih i (by omega)

theorem rdV_news {w : World} {A : Option Addr} {q : Nat} {K : Nat → It} (h : RdV w A q K) : ∀ ad, A = some ad → ∀ j u, (cellsV K q)[j]? = some u → w.cell? (ad.add j) = some u := by
  intro ad hA j u hu
  have hl := cellsV_len K q
  have hj : j < q := by
    rcases Nat.lt_or_ge j q with h | h
    · exact h
    · rw [List.getElem?_eq_none (by omega)] at hu; cases hu
  obtain ⟨b, off, e, _, hr⟩ := h.1.resolve_left (by omega)
  rw [hA] at e
  injection e with e
  subst e
  have hadd : (⟨b, off, none⟩ : Addr).add j = ⟨b, off + j, none⟩ := by unfold Addr.add; split <;> simp_all
  have := cellsV_at K q j hj
  rw [hu] at this
  rw [hadd, hr j hj, this]

theorem i64_eq {a b : Int} (h : a = b) : Value.int .i64 a = .int .i64 b := by rw [h]
theorem ownsRow_slice {w : World} {base size n : Nat} {e : TypeId} {v : Value} {xs : List Value} (h : w.ownsRow base e size v n xs) : ∃ A c, v = .slice A n c ∧ n ≤ c ∧ c ≤ maxLen := by
  rcases h.2 with ⟨rfl, rfl⟩ | ⟨g, cap, cur, rfl, _, _, h1, h2, _⟩
  · exact ⟨none, 0, rfl, Nat.le_refl _, by decide⟩
  · exact ⟨_, cap, rfl, h1, h2⟩
theorem NilOrOwn.le {w : World} {base base' : Nat} {t : It} (h : NilOrOwn w base t) (hb : base' ≤ base) : NilOrOwn w base' t :=
  ⟨h.1.elim .inl (fun ⟨g, h1, h2, h3⟩ => .inr ⟨g, h1, Nat.le_trans hb h2, h3⟩), h.2⟩

set_option maxHeartbeats 4000000 in
set_option maxRecDepth 100000 in
theorem filters_any (A B : Option Addr) (m c k d : Nat) (kind : Int) (L M : Nat → It) (w : World) (ha : RdT w A m L) (hb : RdT w B k M) (hm : m ≤ 1048576) (hk : k ≤ 1048576) :
    Calls Try.prog 6 #[.slice A m c, .slice B k d, .int .u8 kind] w fun e w' => e = .returned (.bool true) ∧ Below w.heap.size w w' := by
  obtain ⟨i0, hi, hz0, hz1, hz2⟩ := info_parts info_tlv
  obtain ⟨i1, hi', hy0, hy1, hy2⟩ := info_parts info_bytes
  have HA := Lib.hid ha
  have HB := Lib.hid hb
  have m1 : m + k ≤ maxLen := by unfold maxLen; omega
  have m2 : (m + k) * 32 ≤ 140737488355328 := by omega
  clear ha hb
  go_enter Try.func6, Try.ntmps6
  go_wp2_with fail
  refine (awake_any _).mono ?_
  rintro e w1 ⟨rfl, hb1⟩
  have B1 := Lib.hid hb1
  clear hb1
  go_wp2_with fail
  refine (twinT_any A m c L _ (HA.out.below B1.out) (by omega)).mono ?_
  rintro e w2 ⟨v1, L1, rfl, hT1, hl1, hb2⟩
  obtain ⟨A1, c1, rfl, _, _, _, hr1⟩ := hT1.shape
  have HR1 := Lib.hid hr1
  have HL1 := Lib.hid hl1
  have B2 := Lib.hid (B1.out.trans (hb2.mono B1.out.size))
  clear hT1 hl1 hb2 hr1
  go_wp2_with fail
  refine (of_any A1 m c1 kind L1 _ HR1.out (by omega)).mono ?_
  rintro e w3 ⟨vx, K1, rfl, hx, hK1, hb3⟩
  have HX := Lib.hid hx
  have HK1 := Lib.hid hK1
  have B3 := Lib.hid (B2.out.trans (hb3.mono B2.out.size))
  have s23 := hb3.size
  clear hx hK1 hb3
  go_wp2_with fail
  refine (twinT_any B k d M _ (HB.out.below B3.out) (by omega)).mono ?_
  rintro e w4 ⟨v2, M1, rfl, hT2, hm1, hb4⟩
  obtain ⟨A2, c2, rfl, _, _, _, hr2⟩ := hT2.shape
  have HR2 := Lib.hid hr2
  have HM1 := Lib.hid hm1
  have B34 := Lib.hid hb4
  have B4 := Lib.hid (B3.out.trans (hb4.mono B3.out.size))
  clear hT2 hm1 hb4 hr2
  go_wp2_with fail
  refine (of_any A2 k c2 kind M1 _ HR2.out (by omega)).mono ?_
  rintro e w5 ⟨vy, K2, rfl, hy, hK2, hb5⟩
  have HY := Lib.hid hy
  have HK2 := Lib.hid hK2
  have B35 := Lib.hid (B34.out.trans (hb5.mono B34.out.size))
  have B5 := Lib.hid (B4.out.trans (hb5.mono B4.out.size))
  have s45 := hb5.size
  clear hy hK2 hb5
  go_wp2_with fail
  refine (twinT_any A m c L _ (HA.out.below B5.out) (by omega)).mono ?_
  rintro e w6 ⟨v3, L3, rfl, hT3, hl3, hb6⟩
  have HT3 := Lib.hid hT3
  have HL3 := Lib.hid hl3
  have B56 := Lib.hid hb6
  have B6 := Lib.hid (B5.out.trans (hb6.mono B5.out.size))
  clear hT3 hl3 hb6
  go_wp2_with fail
  refine (twinT_any B k d M _ (HB.out.below B6.out) (by omega)).mono ?_
  rintro e w7 ⟨v4, M3, rfl, hT4, hm3, hb7⟩
  have s56 := B56.out.size
  have s67 := hb7.size
  obtain ⟨A4, c4, rfl, _, _, hn4, hr4⟩ := hT4.shape
  have HT37 := Lib.hid (HT3.out.below hb7)
  have HT4 := Lib.hid (hT4.le s56)
  have HR4 := Lib.hid hr4
  have HN4 := Lib.hid hn4
  have HM3 := Lib.hid hm3
  have B7 := Lib.hid (B6.out.trans (hb7.mono B6.out.size))
  have B57 := Lib.hid (B56.out.trans (hb7.mono B56.out.size))
  clear hT4 hm3 hb7 hr4 hn4
  go_wp2_with (at_builtin; refine wpList_append_any rfl (.tmp 23) (.tmp 25) 22 rfl w5.heap.size 27 i0 (.agg #[.int .u8 0, .slice none 0 0]) 2 32 Try.underlying22 hi hz0 hz1 hz2 rfl (by decide) v3 m _ rfl HT37.out.1 A4 k c4 (cellsT M3 k) rfl (cellsT_len _ _) HN4.out (rdT_news HR4.out) (cellsT_one _ _) m1 m2 (by omega) ?_; intro v5 w8 hown8 hgrow8; refine Hid.out ?_)
  refine Lib.hid ?_
  have hT5 := ownT_cat (u := v5) HT37.out HT4.out.2 hown8 hgrow8
  have B58 := Lib.hid (B57.out.grown hgrow8 (by omega) (fun x e => (HT37.out.1.lt x e).1))
  have B8 := Lib.hid (B5.out.trans (B58.out.mono B5.out.size))
  obtain ⟨A5, c5, rfl, _, _, _, hr5⟩ := hT5.shape
  have HR5 := Lib.hid hr5
  have s58 := B58.out.size
  clear hT5 hown8 hgrow8 hr5
  go_wp2_with fail
  refine (of_any A5 (m + k) c5 kind (catT L3 m M3) _ HR5.out (by omega)).mono ?_
  rintro e w9 ⟨vz, K5, rfl, hzv, hK5, hb9⟩
  have HZ := Lib.hid hzv
  have HK5 := Lib.hid hK5
  have B59 := Lib.hid (B58.out.trans (hb9.mono s58))
  have B9 := Lib.hid (B8.out.trans (hb9.mono B8.out.size))
  have s89 := hb9.size
  clear hzv hK5 hb9
  go_wp2_with fail
  go_loopw [10, 29] (fun n i wr => ∃ j : Nat, j ≤ 256 ∧ i = .int .i64 j ∧ n = .int .i64 (tot L m j : Nat) ∧ Below w9.heap.size w9 wr)
    (fun _ i _ => 256 - (intOf i).toNat)
  case atStart => exact ⟨0, by omega, rfl, rfl, bself w9⟩
  case round =>
    obtain ⟨j, hj, rfl, rfl, hbr⟩ := hrel
    by_cases hj2 : j < 256
    · have hcb := cnt_le L (j : Int) m
      have htb := tot_le L m j
      have htb2 : tot L m j ≤ 256 * 1048576 := Nat.le_trans htb (Nat.mul_le_mul (by omega) hm)
      have q1 : (j : Int) < 256 := by omega
      have q2 : (j : Int) ≤ 255 := by omega
      have HT := Lib.hid (show tot L m (j + 1) = tot L m j + cnt L (j : Int) m from rfl)
      have H := Lib.hid (of_any A m c (j : Int) L wr ((HA.out.below B9.out).below hbr) (by omega))
      have BR := Lib.hid hbr
      clear htb hbr
      generalize htt : tot L m j = t at *
      generalize hcc : cnt L (j : Int) m = q at *
      have HCC := Lib.hid hcc
      clear htt hcc
      go_wp2_with fail
      refine (H.out).mono ?_
      rintro e w10 ⟨v10, K10, rfl, ho10, _, hb10⟩
      rw [HCC.out] at ho10
      obtain ⟨A10, c10, rfl, _, _⟩ := ownsRow_slice ho10
      have BR10 := Lib.hid (BR.out.trans (hb10.mono BR.out.size))
      clear ho10 hb10
      go_wp2
      go_roundw
      case rel => exact ⟨j + 1, by omega, by go_num, i64_eq (by have h1 := HT.out; have h2 := HCC.out; omega), BR10.out⟩
      case measure => simp only [intOf]; omega
    · obtain rfl : j = 256 := by omega
      have htot : tot L m 256 = m := tot_all L m (fun j hj => by
        obtain ⟨b, off, _, hr⟩ := HA.out.row (by omega)
        exact (hr.2 j hj).2.2.1)
      rw [htot]
      have BW := Lib.hid hbr
      have hs9 := hbr.size
      have s2 : w2.heap.size ≤ w3.heap.size := s23
      have hK1r : Below w3.heap.size w3 wr := ((B35.out.trans (B59.out.mono B35.out.size)).trans (hbr.mono (by have := B35.out.size; have := B59.out.size; omega)))
      have hK2r : Below w5.heap.size w5 wr := B59.out.trans (hbr.mono B59.out.size)
      have hX := ownsRow_below HX.out hK1r
      have hY := ownsRow_le' (ownsRow_below HY.out hK2r) (show w2.heap.size ≤ w4.heap.size by have := B34.out.size; omega)
      have hZ := ownsRow_below HZ.out hbr
      have hk1 : ∀ i, i < cnt L1 kind m → NilOrOwn wr w2.heap.size (K1 i) := fun i hi => (HK1.out i hi).1.below hK1r
      have hk2 : ∀ i, i < cnt M1 kind k → NilOrOwn wr w2.heap.size (K2 i) := fun i hi => ((HK2.out i hi).1.below hK2r).le (by have := B34.out.size; omega)
      have hk5 : ∀ i, i < cnt (catT L3 m M3) kind (m + k) → NilOrOwn wr w8.heap.size (K5 i) := fun i hi => (HK5.out i hi).1.below hbr
      obtain ⟨Ay, cy, rfl, _, _, hny, hVy⟩ := ownV_rd hY (fun i hi => (hk2 i hi).ok)
      have HXr := Lib.hid hX
      have HZr := Lib.hid hZ
      have Hk1 := Lib.hid hk1
      have Hk2 := Lib.hid hk2
      have Hk5 := Lib.hid hk5
      have HNy := Lib.hid hny
      have HVy := Lib.hid hVy
      have e1 := cnt_le L1 kind m
      have e2 := cnt_le M1 kind k
      have ec : cnt (catT L3 m M3) kind (m + k) = cnt L1 kind m + cnt M1 kind k := by
        rw [cnt_cat, cnt_congr kind (L := L1) (L' := L3) (m := m) (fun j hj => ((HL1.out j hj).1.symm.trans (HL3.out j hj).1)) m (Nat.le_refl _), cnt_congr kind (L := M1) (L' := M3) (m := k) (fun j hj => ((HM1.out j hj).1.symm.trans (HM3.out j hj).1)) k (Nat.le_refl _)]
      have EC := Lib.hid ec
      have t1 : cnt L1 kind m + cnt M1 kind k ≤ maxLen := by unfold maxLen; omega
      have t2 : (cnt L1 kind m + cnt M1 kind k) * 24 ≤ 140737488355328 := by omega
      have t3 : w2.heap.size ≤ wr.heap.size := by have := hK1r.size; omega
      have HB2 := Lib.hid (show w.heap.size ≤ w2.heap.size from B2.out.size)
      clear hX hY hZ hk1 hk2 hk5 hny hVy hK1r hK2r hbr htot ec
      generalize hp1 : cnt L1 kind m = p1 at *
      generalize hp2 : cnt M1 kind k = p2 at *
      have HP1 := Lib.hid hp1
      have HP2 := Lib.hid hp2
      clear hp1 hp2
      go_wp2_with (at_builtin; refine wpList_append_any rfl (.tmp 41) (.tmp 42) 33 rfl w2.heap.size 25 i1 (.slice none 0 0) 1 24 Try.underlying33 hi' hy0 hy1 hy2 rfl (by decide) vx p1 _ rfl HXr.out Ay p2 cy (cellsV K2 p2) rfl (cellsV_len _ _) HNy.out (rdV_news HVy.out) (cellsV_one _ _) t1 t2 t3 ?_; intro v11 w11 hown11 hgrow11; refine Hid.out ?_)
      refine Lib.hid ?_
      rw [cellsV_cat] at hown11
      have hb11 : Below w.heap.size w w11 := (B9.out.trans (BW.out.mono B9.out.size)).grown hgrow11 (by have := HB2.out; omega) (fun x e => Nat.le_trans HB2.out (HXr.out.lt x e).1)
      have hk1' : ∀ i, i < p1 → NilOrOwn w11 w2.heap.size (K1 i) := fun i hi => (Hk1.out i hi).grown HXr.out hgrow11
      have hk2' : ∀ i, i < p2 → NilOrOwn w11 w2.heap.size (K2 i) := fun i hi => (Hk2.out i hi).grown HXr.out hgrow11
      have hne : ∀ x, vx.ownBlock = some x → x < w8.heap.size := by
        intro x e
        have h1 := (HX.out.lt x e).2
        have h2 := B35.out.size
        have h3 := B58.out.size
        omega
      have hz11 : w11.ownsRow w8.heap.size 25 1 vz (cnt (catT L3 m M3) kind (m + k)) (cellsV K5 (cnt (catT L3 m M3) kind (m + k))) := HZr.out.kept hgrow11 (by
        rcases hv : vz.ownBlock with _ | g
        · exact .inl rfl
        · refine .inr (fun e => ?_)
          have h1 := (HZr.out.lt g hv).1
          have h2 := hne g e.symm
          omega)
      have hk5' : ∀ i, i < cnt (catT L3 m M3) kind (m + k) → NilOrOwn w11 w2.heap.size (K5 i) := fun i hi => ((Hk5.out i hi).le (by have h2 := B35.out.size; have h3 := B58.out.size; omega)).grown HXr.out hgrow11
      obtain ⟨A11, c11, rfl, _, _, _, hV11⟩ := ownV_rd hown11 (fun i hi => by
        by_cases e : i < p1
        · rw [catT_lo _ _ _ _ e]; exact (hk1' i e).ok
        · obtain ⟨x, rfl⟩ : ∃ x, i = p1 + x := ⟨i - p1, by omega⟩
          rw [catT_hi]; exact (hk2' x (by omega)).ok)
      obtain ⟨Az, cz, rfl, _, _, _, hVz⟩ := ownV_rd hz11 (fun i hi => (hk5' i hi).ok)
      rw [EC.out] at hVz ⊢
      have HS := Lib.hid (samevals_yes Az A11 (p1 + p2) cz c11 K5 (catT K1 p1 K2) w11 hVz hV11 (fun i hi => by
        obtain ⟨_, n5, z5⟩ := HK5.out i (by rw [EC.out]; exact hi)
        have hi2 : i < cnt L3 kind m + cnt M3 kind k := by
          have := cnt_cat L3 M3 kind m k
          rw [EC.out] at this
          omega
        obtain ⟨n6, z6⟩ := sel_cat L3 M3 kind m k i hi2
        have c13 : cnt L3 kind m = p1 := by rw [← HP1.out]; exact cnt_congr kind (fun j hj => ((HL3.out j hj).1.symm.trans (HL1.out j hj).1)) m (Nat.le_refl _)
        rw [n5, z5, n6, z6, c13]
        by_cases e : i < p1
        · rw [catT_lo _ _ _ _ e, catT_lo _ _ _ _ e]
          obtain ⟨_, n7, z7⟩ := HK1.out i e
          obtain ⟨n8, z8⟩ := sel_congr kind (L := L3) (L' := L1) (m := m) (fun j hj => ⟨(HL3.out j hj).1.symm.trans (HL1.out j hj).1, (HL3.out j hj).2.1.symm.trans (HL1.out j hj).2.1, (HL3.out j hj).2.2.symm.trans (HL1.out j hj).2.2⟩) m (Nat.le_refl _) i (by rw [c13]; exact e)
          exact ⟨by rw [n7, n8], fun x _ => by rw [z7, z8]⟩
        · obtain ⟨x, rfl⟩ : ∃ x, i = p1 + x := ⟨i - p1, by omega⟩
          rw [catT_hi, catT_hi]
          have c23 : cnt M3 kind k = p2 := by rw [← HP2.out]; exact cnt_congr kind (fun j hj => ((HM3.out j hj).1.symm.trans (HM1.out j hj).1)) k (Nat.le_refl _)
          obtain ⟨_, n7, z7⟩ := HK2.out x (by omega)
          obtain ⟨n8, z8⟩ := sel_congr kind (L := M3) (L' := M1) (m := k) (fun j hj => ⟨(HM3.out j hj).1.symm.trans (HM1.out j hj).1, (HM3.out j hj).2.1.symm.trans (HM1.out j hj).2.1, (HM3.out j hj).2.2.symm.trans (HM1.out j hj).2.2⟩) k (Nat.le_refl _) x (by rw [c23]; omega)
          exact ⟨by rw [n7, n8], fun y _ => by rw [z7, z8]⟩) (by omega))
      have B11 := Lib.hid hb11
      clear hb11 hown11 hgrow11 hk1' hk2' hk5' hne hz11 hV11 hVz
      go_wp2_with fail
      refine (HS.out).mono ?_
      rintro e w12 ⟨rfl, r, rfl⟩
      go_wp2
      go_ret
      exact ⟨rfl, bdrewN B11.out r⟩

theorem walkTlvFilters (A : Option Addr) (m c : Nat) (L : Nat → It) (B : Option Addr) (k d : Nat) (M : Nat → It) (kind : Int) (w : World) (h : RdT w A m L ∧ (A = none → m = 0 ∧ c = 0) ∧ m ≤ c ∧ c * 32 ≤ 140737488351232) (hm : m ≤ 1048576)
    (h' : RdT w B k M ∧ (B = none → k = 0 ∧ d = 0) ∧ k ≤ d ∧ d * 32 ≤ 140737488351232) (hk : k ≤ 1048576) (hw : (Lit.int .u8 kind).wf = true) :
    Calls Try.prog 6 #[.slice A m c, .slice B k d, .int .u8 kind] w fun e w' => e = .returned (.bool true) ∧ Below w.heap.size w w' :=
  filters_any A B m c k d kind L M w h.1 h'.1 hm hk
end Go.Proofs.Ytpbippipmcpjeab
