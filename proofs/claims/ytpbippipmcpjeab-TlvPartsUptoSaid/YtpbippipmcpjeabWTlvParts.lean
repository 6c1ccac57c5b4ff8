/- The walk of TlvParts: for every two lists of at most 1048576 each the law returns true, and nothing that was there is written. -/
import Derived.Test.YtpbippipmcpjeabWTlvJoins
import Derived.Test.YtpbippipmcpjeabTApp
namespace Go.Proofs.Ytpbippipmcpjeab
open Go.RowKit
set_option linter.unusedVariables false

/-- append of a slice that may be nil, behind a guard that says yes -/
theorem wpList_append_any_w {P : Program} {w : World} {ops : Array Oper} {rest : List Oper} {o : Oper} {a : Act} {Q : Exit → Act → World → Prop} (s x : Operand) (t : TypeId)
    (ho : o.op = .call { callee := .builtin .append, args := #[s, x], argTypes := #[t, t] }) (hgd : Region.wanted o (yielded ops a.tmps) = true)
    (base : Nat) (e : TypeId) (i : TypeInfo) (z : Value) (size bytes : Nat) (ht : P.underlying t = some (.slice e)) (hi : P.info? e = some i) (hz : i.zero = some z)
    (hsize : i.size = size) (hby : i.bytes = bytes) (hzs : z.cells.size = size) (hsz : 0 < size)
    (v : Value) (n : Nat) (xs : List Value) (hs : a.eval s = v) (hown : w.ownsRow base e size v n xs)
    (ao : Option Addr) (m c : Nat) (news : List Value) (hx : a.eval x = .slice ao m c) (hl : news.length = m * size) (hnone : ao = none → m = 0 ∧ c = 0) (hnews : ∀ ad, ao = some ad → ∀ j u, news[j]? = some u → w.cell? (ad.add j) = some u) (h1 : ∀ u ∈ news, u.oneCell' = true)
    (h63 : n + m ≤ maxLen) (hbytes : (n + m) * bytes ≤ 140737488355328) (hbase : base ≤ w.heap.size)
    (h : ∀ v' w', w'.ownsRow base e size v' (n + m) (xs ++ news) → w.grownBy w' v.ownBlock → wpList P ops Q rest (a.put o.dst v') w') :
    wpList P ops Q (o :: rest) a w := by
  refine wpList_step fun K hK => ?_
  rw [if_pos hgd]
  rcases ao with _ | ad
  · obtain ⟨rfl, rfl⟩ := hnone rfl
    have hn : news = [] := List.eq_nil_of_length_eq_zero (by simpa using hl)
    subst hn
    have hrun := run_append_owned_none (P := P) (w := w) base t o.type e i size ht hi v n xs hown
    unfold Oper.wp
    simp [execOp, ho, resolve, invoke, builtin, hs, hx, hrun, Result.andThen]
    exact hK _ _ (h v w (by simpa using hown) (World.grownBy.refl _ _))
  · obtain ⟨v', w', hr, h2, h3, h4, h5⟩ := run_append_own_at (P := P) w base t o.type e i z size bytes ht hi hz hsize hby hzs hsz v n xs hown ad m c news hl (hnews ad rfl) h1 h63 hbytes hbase
    unfold Oper.wp execOp
    simp only [ho, resolve, invoke, builtin, Sem.run_bind, Sem.run_pure, Result.andThen_ok, List.map_toArray, List.map_cons, List.map_nil, hs, hx, hr]
    exact hK _ _ (h v' w' h2 h3)
theorem own_row {w : World} {g n cap base : Nat} {z : Nat → Int} (h : Own8 w g n cap z) (hb : base ≤ g) : w.ownsRow base 5 1 (.slice (some ⟨g, 0, none⟩) n cap) n (vals z n) := by
  obtain ⟨⟨cur, hc, h1, h2, h3, h4⟩, _⟩ := h
  refine ⟨by rw [vals_len]; omega, .inr ⟨g, cap, cur, rfl, hb, hc, h1, h2, by omega, ?_⟩⟩
  apply List.ext_getElem?
  intro i
  rw [List.getElem?_take]
  by_cases hi : i < n
  · rw [if_pos (by omega), vals_at z n i hi]
    simpa using h4 i hi
  · rw [if_neg (by omega), List.getElem?_eq_none (by rw [vals_len]; omega)]
/-- the cells of bytes that can be read -/
theorem rd_cells {w : World} {A : Option Addr} {n : Nat} {z : Nat → Int} (h : Rd w A n z) : ∀ ad, A = some ad → ∀ j u, (vals z n)[j]? = some u → w.cell? (ad.add j) = some u := by
  intro ad e; subst e; exact rd_news' h

theorem bad_lo (L M : Nat → It) (m i : Nat) (h : i < m) : bad (catT L m M) i ↔ bad L i := by
  unfold bad
  rw [catT_lo _ _ _ _ h, (sz_cat L M m).1 (i + 1) (by omega)]
theorem bad_hi (L M : Nat → It) (m i : Nat) : bad (catT L m M) (m + i) ↔ 255 < (M i).n ∨ 1492 < sz L m + sz M (i + 1) := by
  unfold bad
  rw [catT_hi, Nat.add_assoc, (sz_cat L M m).2 (i + 1)]
theorem ends_full {L M : Nat → It} {m k m0 k0 : Nat} (h : JEnds L m m0) (h' : JEnds M k k0) (hc : JEnds (catT L m M) (m + k) (m + k)) : m0 = m ∧ k0 = k ∧ sz L m + sz M k ≤ 1492 := by
  have hs := sz_small hc
  rw [(sz_cat L M m).2 k] at hs
  refine ⟨?_, ?_, hs⟩
  · rcases h.2.2 with e | ⟨hlt, hb⟩
    · exact e
    · exact absurd ((bad_lo L M m m0 hlt).2 hb) (hc.2.1 m0 (by omega))
  · rcases h'.2.2 with e | ⟨hlt, hb⟩
    · exact e
    · refine absurd ((bad_hi L M m k0).2 ?_) (hc.2.1 (m + k0) (by omega))
      rcases hb with hb | hb
      · exact .inl hb
      · exact .inr (by omega)
theorem ends_part {L M : Nat → It} {m k n0 : Nat} (h : JEnds L m m) (h' : JEnds M k k) (hc : JEnds (catT L m M) (m + k) n0) (hn : n0 < m + k) : 1492 < sz L m + sz M k := by
  rcases hc.2.2 with e | ⟨_, hb⟩
  · omega
  · by_cases e : n0 < m
    · exact absurd ((bad_lo L M m n0 e).1 hb) (h.2.1 n0 e)
    · obtain ⟨i, rfl⟩ : ∃ i, n0 = m + i := ⟨n0 - m, by omega⟩
      have hi : i < k := by omega
      have hg := h'.2.1 i hi
      unfold bad at hg
      rcases (bad_hi L M m i).1 hb with hb | hb
      · exact absurd (.inl hb) hg
      · have := sz_mono M (i + 1) k (by omega); omega
/-- how many items end within n bytes -/
theorem sz_cases (L : Nat → It) (M n : Nat) : ∃ m', m' ≤ M ∧ sz L m' ≤ n ∧ (m' = M ∨ n < sz L (m' + 1)) := by
  induction M with
  | zero => exact ⟨0, by omega, by simp [sz], .inl rfl⟩
  | succ M ih =>
    obtain ⟨m', h1, h2, h3⟩ := ih
    rcases h3 with rfl | h3
    · by_cases h : sz L (m' + 1) ≤ n
      · exact ⟨m' + 1, by omega, h, .inl rfl⟩
      · exact ⟨m', by omega, h2, .inr (by omega)⟩
    · exact ⟨m', by omega, h2, .inr h3⟩
theorem ends_of {L : Nat → It} {M n m' : Nat} (h1 : m' ≤ M) (h2 : sz L m' ≤ n) (h3 : m' = M ∨ n < sz L (m' + 1)) (hn : n ≤ sz L M) : Ends (J L M) n m' := by
  have hp := J_pos L M m' h1
  refine ⟨by omega, ?_⟩
  rcases h3 with rfl | h3
  · exact .inl (by omega)
  · by_cases e : sz L m' = n
    · exact .inl (by omega)
    · have hlt : m' < M := by
        rcases Nat.lt_or_ge m' M with h | h
        · exact h
        · obtain rfl : m' = M := by omega
          omega
      have := J_pos L M (m' + 1) (by omega)
      exact .inr ⟨by omega, .inr (by omega)⟩
theorem sz_le_iff {L : Nat → It} {M n m' : Nat} (h1 : m' ≤ M) (h2 : sz L m' ≤ n) (h3 : m' = M ∨ n < sz L (m' + 1)) (i : Nat) (hi : i ≤ M) : sz L i ≤ n ↔ i ≤ m' := by
  constructor
  · intro h
    rcases h3 with rfl | h3
    · exact hi
    · rcases Nat.lt_or_ge m' i with g | g
      · have := sz_mono L (m' + 1) i (by omega); omega
      · exact g
  · intro h
    have := sz_mono L i m' h; omega

set_option maxHeartbeats 900000 in
set_option maxRecDepth 100000 in
theorem parts_any (A B : Option Addr) (m c k d : Nat) (cut : Int) (L M : Nat → It) (w : World) (ha : RdT w A m L) (hb : RdT w B k M) (hm : m ≤ 1048576) (hk : k ≤ 1048576) (hcut : 0 ≤ cut ∧ cut ≤ 65535) (hB : B = none → k = 0 ∧ d = 0) :
    Calls Try.prog 5 #[.slice A m c, .slice B k d, .int .u16 cut] w fun e w' => e = .returned (.bool true) ∧ Below w.heap.size w w' := by
  obtain ⟨i0, hi, hz0, hz1, hz2⟩ := info_parts info_tlv
  obtain ⟨i1, hi', hy0, hy1, hy2⟩ := info_parts info_u8
  obtain ⟨m0, hj1⟩ := jends L m
  obtain ⟨k0, hj2⟩ := jends M k
  obtain ⟨n0, hj3⟩ := jends (catT L m M) (m + k)
  have E1 := Lib.hid hj1
  have E2 := Lib.hid hj2
  have E3 := Lib.hid hj3
  have HA := Lib.hid ha
  have HB := Lib.hid hb
  have HBn := Lib.hid hB
  have m1 : m + k ≤ maxLen := by unfold maxLen; omega
  have m2 : (m + k) * 32 ≤ 140737488355328 := by omega
  clear ha hb hj1 hj2 hj3 hB
  go_enter Try.func5, Try.ntmps5
  go_wp2_with fail
  refine (awake_any _).mono ?_
  rintro e w1 ⟨rfl, hb1⟩
  have B1 := Lib.hid hb1
  clear hb1
  go_wp2_with fail
  refine (twinT_any A m c L _ (HA.out.below B1.out) (by omega)).mono ?_
  rintro e w2 ⟨v1, L1, rfl, hT1, hl1, hb2⟩
  obtain ⟨A1, c1, rfl, x1, y1, _, hr1⟩ := hT1.shape
  have HR1 := Lib.hid hr1
  have HL1 := Lib.hid hl1
  have B2 := Lib.hid (B1.out.trans (hb2.mono B1.out.size))
  have e1 := Lib.hid (jends_congr (fun j hj => (hl1 j hj).2.1) E1.out)
  unfold maxLen at y1
  clear hT1 hl1 hb2 hr1
  go_wp2_with fail
  refine (join_uni A1 m c1 m0 L1 _ HR1.out x1 (by omega) e1.out).mono ?_
  rintro e w3 ⟨pA, pn, pc, ee, pz, rfl, hp, hpA, hpc, hpcm, hpn, hcase1, hb3⟩
  have HP := Lib.hid hp
  have HPA := Lib.hid hpA
  have C1 := Lib.hid hcase1
  have B3 := Lib.hid (B2.out.trans (hb3.mono B2.out.size))
  clear hp hpA hcase1 hb3
  go_wp2_with fail
  refine (twinT_any B k d M _ (HB.out.below B3.out) (by omega)).mono ?_
  rintro e w4 ⟨v2, M1, rfl, hT2, hm1, hb4⟩
  obtain ⟨A2, c2, rfl, x2, y2, _, hr2⟩ := hT2.shape
  have HR2 := Lib.hid hr2
  have HM1 := Lib.hid hm1
  have B34 := Lib.hid hb4
  have B4 := Lib.hid (B3.out.trans (hb4.mono B3.out.size))
  have e2 := Lib.hid (jends_congr (fun j hj => (hm1 j hj).2.1) E2.out)
  unfold maxLen at y2
  clear hT2 hm1 hb4 hr2
  go_wp2_with fail
  refine (join_uni A2 k c2 k0 M1 _ HR2.out x2 (by omega) e2.out).mono ?_
  rintro e w5 ⟨qA, qn, qc, ff, qz, rfl, hq, hqA, hqc, hqcm, hqn, hcase2, hb5⟩
  have HQ := Lib.hid hq
  have HQA := Lib.hid hqA
  have C2 := Lib.hid hcase2
  have B35 := Lib.hid (B34.out.trans (hb5.mono B34.out.size))
  have B5 := Lib.hid (B4.out.trans (hb5.mono B4.out.size))
  clear hq hqA hcase2 hb5
  go_wp2_with fail
  refine (twinT_any A m c L _ (HA.out.below B5.out) (by omega)).mono ?_
  rintro e w6 ⟨v3, L3, rfl, hT3, hl3, hb6⟩
  have HT3 := Lib.hid hT3
  have HL3 := Lib.hid hl3
  have B56 := Lib.hid hb6
  have B6 := Lib.hid (B5.out.trans (hb6.mono B5.out.size))
  clear hT3 hl3 hb6
  go_wp2_with fail
  refine (twinT_any B k d M _ (HB.out.below B6.out) (by omega)).mono ?_
  rintro e w7 ⟨v4, M3, rfl, hT4, hm3, hb7⟩
  have s56 := B56.out.size
  have s67 := hb7.size
  obtain ⟨A4, c4, rfl, _, _, hn4, hr4⟩ := hT4.shape
  have HT37 := Lib.hid (HT3.out.below hb7)
  have HT4 := Lib.hid (hT4.le s56)
  have HR4 := Lib.hid hr4
  have HN4 := Lib.hid hn4
  have HM3 := Lib.hid hm3
  have B57 := Lib.hid (B56.out.trans (hb7.mono B56.out.size))
  clear hT4 hm3 hb7 hr4 hn4
  go_wp2_with (at_builtin; refine wpList_append_any rfl (.tmp 36) (.tmp 38) 22 rfl w5.heap.size 27 i0 (.agg #[.int .u8 0, .slice none 0 0]) 2 32 Try.underlying22 hi hz0 hz1 hz2 rfl (by decide) v3 m _ rfl HT37.out.1 A4 k c4 (cellsT M3 k) rfl (cellsT_len _ _) HN4.out (rdT_news HR4.out) (cellsT_one _ _) m1 m2 (by omega) ?_; intro v5 w8 hown8 hgrow8; refine Hid.out ?_)
  refine Lib.hid ?_
  have hT5 := ownT_cat (u := v5) HT37.out HT4.out.2 hown8 hgrow8
  have B58 := Lib.hid (B57.out.grown hgrow8 (by omega) (fun x e => (HT37.out.1.lt x e).1))
  obtain ⟨A5, c5, rfl, x5, y5, _, hr5⟩ := hT5.shape
  have HR5 := Lib.hid hr5
  have s58 := B58.out.size
  unfold maxLen at y5
  have hcong : ∀ j, j < m + k → Alike (catT L m M j) (catT L3 m M3 j) := fun j hj => by
    by_cases e : j < m
    · rw [catT_lo _ _ _ _ e, catT_lo _ _ _ _ e]; exact HL3.out j e
    · obtain ⟨x, rfl⟩ : ∃ x, j = m + x := ⟨j - m, by omega⟩
      rw [catT_hi, catT_hi]; exact HM3.out x (by omega)
  have HCG := Lib.hid hcong
  have e3 := Lib.hid (jends_congr (fun j hj => (hcong j hj).2.1) E3.out)
  clear hT5 hown8 hgrow8 hr5 hcong
  go_wp2_with fail
  refine (join_any A5 (m + k) c5 n0 (catT L3 m M3) _ HR5.out x5 (by omega) e3.out).mono ?_
  rintro e w9 (⟨hfull, g9, cap9, rfl, hg9, ho9, hb9⟩ | ⟨hpart, rfl, hb9⟩)
  · have B59 := Lib.hid (B58.out.trans (hb9.mono s58))
    subst hfull
    obtain ⟨hm0, hk0, hsum⟩ := ends_full E1.out E2.out E3.out
    have a1 := sz_congr (fun j hj => (HL1.out j hj).2.1) m (Nat.le_refl _)
    have a2 := sz_congr (fun j hj => (HM1.out j hj).2.1) k (Nat.le_refl _)
    have a3 := sz_congr (fun j hj => (HL3.out j hj).2.1) m (Nat.le_refl _)
    have a4 := sz_congr (fun j hj => (HM3.out j hj).2.1) k (Nat.le_refl _)
    have a5 := (sz_cat L3 M3 m).2 k
    rcases C1.out with ⟨rfl, h1, h2, h3⟩ | ⟨rfl, h1, h2⟩
    case inr => omega
    rcases C2.out with ⟨rfl, g1, g2, g3⟩ | ⟨rfl, g1, g2⟩
    case inr => omega
    have q1 : (pn : Int) + (qn : Int) ≤ 1492 := by omega
    have hS : sz (catT L3 m M3) (m + k) = pn + qn := by omega
    have hzz : ∀ j, j < pn + qn → J (catT L3 m M3) (m + k) j = cat pz pn qz j := by
      intro j hj
      rw [J_cat L3 M3 m k j (by omega), h3, g3]
      have e13 : ∀ j, j < m → (L3 j).ty = (L1 j).ty ∧ (L3 j).n = (L1 j).n ∧ ∀ i, i < (L3 j).n → (L3 j).z i = (L1 j).z i := fun j hj =>
        ⟨(HL3.out j hj).1.symm.trans (HL1.out j hj).1, (HL3.out j hj).2.1.symm.trans (HL1.out j hj).2.1, fun i _ => by rw [← (HL3.out j hj).2.2, (HL1.out j hj).2.2]⟩
      have e24 : ∀ j, j < k → (M3 j).ty = (M1 j).ty ∧ (M3 j).n = (M1 j).n ∧ ∀ i, i < (M3 j).n → (M3 j).z i = (M1 j).z i := fun j hj =>
        ⟨(HM3.out j hj).1.symm.trans (HM1.out j hj).1, (HM3.out j hj).2.1.symm.trans (HM1.out j hj).2.1, fun i _ => by rw [← (HM3.out j hj).2.2, (HM1.out j hj).2.2]⟩
      unfold cat
      by_cases e : j < sz L3 m
      · rw [if_pos e, if_pos (by omega)]
        exact J_congr e13 m (Nat.le_refl _) j e
      · rw [if_neg e, if_neg (by omega), show sz L3 m = pn by omega]
        exact J_congr e24 k (Nat.le_refl _) _ (by omega)
    have HZZ := Lib.hid hzz
    rw [hS] at ho9 ⊢
    have HS := Lib.hid hS
    have HO9 := Lib.hid ho9
    have hcap9 := ho9.caps
    unfold maxLen at hcap9
    have B39 := Lib.hid (B35.out.trans (B59.out.mono B35.out.size))
    have B9 := Lib.hid (B5.out.trans (B59.out.mono B5.out.size))
    have HP9 := Lib.hid (HP.out.below B39.out rfl)
    have HQ9 := Lib.hid (HQ.out.below B59.out rfl)
    clear hm0 hk0 hsum a1 a2 a3 a4 a5 h1 h2 h3 g1 g2 g3 hS hzz ho9 hb9
    go_wp2_with fail
    refine (twin_any pA pn pc pz _ HP9.out HPA.out (by omega)).mono ?_
    rintro e w10 ⟨g10, cap10, rfl, hg10, ho10, hb10⟩
    have HO10 := Lib.hid (show w10.ownsRow w9.heap.size 5 1 (.slice (some ⟨g10, 0, none⟩) pn cap10) pn (vals pz pn) from own_row ho10 hg10)
    have HB10 := Lib.hid hb10
    have B10 := Lib.hid (B9.out.trans (hb10.mono B9.out.size))
    have HO9' := Lib.hid (HO9.out.below hb10 HO9.out.lt)
    have HQ10 := Lib.hid (HQ9.out.below hb10 rfl)
    have t1 : pn + qn ≤ maxLen := by unfold maxLen; omega
    have t2 : (pn + qn) * 1 ≤ 140737488355328 := by omega
    have t3 : w9.heap.size ≤ w10.heap.size := hb10.size
    clear ho10 hb10 hg10
    go_wp2_with (at_builtin; go_must (refine wpList_append_any_w (.tmp 69) (.tmp 70) 25 rfl (by rfl) w9.heap.size 5 i1 (.int .u8 0) 1 1 Try.underlying25 hi' hy0 hy1 hy2 rfl (by decide) (.slice (some ⟨g10, 0, none⟩) pn cap10) pn _ rfl HO10.out qA qn qc (vals qz qn) rfl (by rw [vals_len]; omega) HQA.out (rd_cells HQ10.out) (vals_one _ _) t1 t2 t3 ?_); intro v11 w11 hown11 hgrow11; refine Hid.out ?_)
    refine Lib.hid ?_
    rw [vals_cat] at hown11
    obtain ⟨A11, c11, rfl, _, _, _, hr11⟩ := ownsRow_rd hown11 (cat_bd HP.out.2 HQ.out.2)
    have hb11 : Below w9.heap.size w9 w11 := HB10.out.grown hgrow11 t3 (fun x e => (HO10.out.lt x e).1)
    have HO11 := Lib.hid (HO9.out.below hb11 HO9.out.lt)
    have B11 := Lib.hid (B9.out.trans (hb11.mono B9.out.size))
    have HS11 := Lib.hid (same_yes (some ⟨g9, 0, none⟩) A11 (pn + qn) cap9 c11 (J (catT L3 m M3) (m + k)) (cat pz pn qz) w11 HO11.out.rd hr11 HZZ.out (by omega))
    clear hown11 hgrow11 hr11 hb11
    go_wp2_with fail
    refine (HS11.out).mono ?_
    rintro e w12 ⟨rfl, r, rfl⟩
    have hN : (0 : Int) < (pn : Int) + (qn : Int) + 1 := by omega
    obtain ⟨n, hn⟩ := Int.eq_ofNat_of_zero_le (Int.emod_nonneg cut (by omega : (pn : Int) + (qn : Int) + 1 ≠ 0))
    have hn1 : n ≤ pn + qn := by have := Int.emod_lt_of_pos cut hN; omega
    have hn2 : (n : Int) ≤ (cap9 : Int) := by omega
    have hn3 : (0 : Int) ≤ (n : Int) := by omega
    have hcb := hcut.1
    obtain ⟨m', hm1, hm2, hm3⟩ := sz_cases (catT L3 m M3) (m + k) n
    have hE := ends_of hm1 hm2 hm3 (by rw [HS.out]; exact hn1)
    have HE := Lib.hid hE
    have HX1 := Lib.hid hm1
    have HX2 := Lib.hid hm2
    have HSL := Lib.hid (sz_le_iff hm1 hm2 hm3)
    have HPM := Lib.hid (J_pos (catT L3 m M3) (m + k) m' hm1)
    have HRd := Lib.hid (HO11.out.rd.cut n (by omega))
    have BR := Lib.hid (bdrewN B11.out r)
    clear hE hm1 hm2 hm3
    go_wp2_with fail
    refine (split_any (some ⟨g9, 0, none⟩) n cap9 m' (J (catT L3 m M3) (m + k)) _ (by exact HRd.out) (fun e => by cases e) (by omega) (by omega) (by omega) HE.out).mono ?_
    intro e w13 hsp
    have hb13 : Below (w11.drewN r).heap.size (w11.drewN r) w13 := by
      rcases hsp with ⟨_, _, _, _, _, _, h⟩ | ⟨_, _, h⟩ <;> exact h
    have B13 := Lib.hid (BR.out.trans (hb13.mono BR.out.size))
    obtain ⟨lA, ln, lc, hh, rfl, hlast⟩ : ∃ lA ln lc hh, e = .returned (.tuple #[.slice lA ln lc, .int .i64 hh]) ∧ ((hh = 0 ∧ sz (catT L3 m M3) m' = n) ∨ (hh = 3 ∧ sz (catT L3 m M3) m' ≠ n ∧ ln = 0)) := by
      rcases hsp with ⟨h1, v, L5, rfl, hT, _, _⟩ | ⟨h1, rfl, _⟩
      · obtain ⟨lA, lc, rfl, _, _, _, _⟩ := hT.shape
        exact ⟨lA, m', lc, 0, rfl, .inl ⟨rfl, HPM.out.symm.trans h1⟩⟩
      · exact ⟨none, 0, 0, 3, rfl, .inr ⟨rfl, fun h => h1 (HPM.out.trans h), rfl⟩⟩
    have HL := Lib.hid hlast
    clear hsp hb13 hlast
    go_wp2_with fail
    refine (twinT_any A m c L _ (HA.out.below B13.out) (by omega)).mono ?_
    rintro e w14 ⟨v14, L14, rfl, hT14, hl14, hb14⟩
    have HT14 := Lib.hid hT14
    have HL14 := Lib.hid hl14
    have B14 := Lib.hid (B13.out.trans (hb14.mono B13.out.size))
    have HB14 := Lib.hid (HB.out.below B14.out)
    have t4 : w13.heap.size ≤ w14.heap.size := hb14.size
    clear hT14 hl14 hb14
    go_wp2_with (at_builtin; refine wpList_append_any rfl (.tmp 89) (.tmp 90) 22 rfl w13.heap.size 27 i0 (.agg #[.int .u8 0, .slice none 0 0]) 2 32 Try.underlying22 hi hz0 hz1 hz2 rfl (by decide) v14 m _ rfl HT14.out.1 B k d (cellsT M k) rfl (cellsT_len _ _) HBn.out (rdT_news HB14.out) (cellsT_one _ _) m1 m2 t4 ?_; intro v15 w15 hown15 hgrow15; refine Hid.out ?_)
    refine Lib.hid ?_
    rw [cellsT_cat] at hown15
    have hb15 : Below w.heap.size w w15 := B14.out.grown hgrow15 B14.out.size (fun x e => Nat.le_trans B13.out.size (HT14.out.1.lt x e).1)
    have hok : ∀ j, j < m + k → ItOk w15 (catT L14 m M j) := fun j hj => by
      by_cases e : j < m
      · rw [catT_lo _ _ _ _ e]
        exact (ownV_grown (v' := v15) (HT14.out.2 j e) HT14.out.1 hgrow15).ok
      · obtain ⟨x, rfl⟩ : ∃ x, j = m + x := ⟨j - m, by omega⟩
        rw [catT_hi]
        obtain ⟨b, off, _, hr⟩ := HB.out.row (by omega)
        exact ((hr.2 x (by omega)).2.2).below hb15
    have hrd : ∃ A c, v15 = .slice A (m + k) c ∧ RdT w15 A (m + k) (catT L14 m M) := by
      rcases hown15.2 with ⟨rfl, h0⟩ | ⟨g, cap, cur, rfl, hb, hc, h1, h2, h3, h4⟩
      · exact ⟨none, 0, by rw [h0], .inl h0⟩
      · refine ⟨some ⟨g, 0, none⟩, cap, rfl, .inr ⟨g, 0, rfl, (Array.getElem?_eq_some_iff.1 hc).1, fun j hj => ?_⟩⟩
        have hx := cellsT_at (catT L14 m M) (m + k) j hj
        rw [← h4] at hx
        rw [List.getElem?_take, if_pos (by omega), List.getElem?_take, if_pos (by omega)] at hx
        refine ⟨?_, ?_, hok j hj⟩
        · rw [Nat.zero_add, cell_of_row w15 g _ cur _ (0, 0) hc]; simpa using hx.1
        · rw [Nat.zero_add, cell_of_row w15 g _ cur _ (0, 0) hc]; simpa using hx.2
    obtain ⟨A15, c15, rfl, hRd15⟩ := hrd
    have hszs : ∀ i, i ≤ m + k → sz (catT L14 m M) i = sz (catT L3 m M3) i := sz_congr (fun j hj => by
      by_cases e : j < m
      · rw [catT_lo _ _ _ _ e, catT_lo _ _ _ _ e]; exact (HL14.out j e).2.1.symm.trans (HL3.out j e).2.1
      · obtain ⟨x, rfl⟩ : ∃ x, j = m + x := ⟨j - m, by omega⟩
        rw [catT_hi, catT_hi]; exact (HM3.out x (by omega)).2.1)
    have HSZ := Lib.hid hszs
    have HR15 := Lib.hid hRd15
    have B15 := Lib.hid hb15
    clear hown15 hgrow15 hb15 hok hRd15 hszs
    go_wp2_with fail
    generalize hC : catT L3 m M3 = C at *
    generalize hC2 : catT L14 m M = C2 at *
    have hmk : m + k ≤ 2097152 := by omega
    generalize hMM : m + k = N at *
    clear hC hC2
    go_loopw [16, 17, 93] (fun b s i wr => ∃ j : Nat, j ≤ N ∧ i = .int .i64 j ∧ s = .int .i64 (sz C j : Nat) ∧ b = .int .i64 (sz C (min (j - 1) m') : Nat) ∧ Below w15.heap.size w15 wr)
      (fun _ _ i _ => N - (intOf i).toNat)
    case atStart => exact ⟨0, by omega, rfl, rfl, by simp [sz], bself w15⟩
    case round =>
      obtain ⟨j, hj, rfl, rfl, rfl, hbr⟩ := hrel
      by_cases hjN : j < N
      · obtain ⟨b, off, rfl, hr⟩ := (HR15.out.below hbr).row (by omega)
        obtain ⟨c0, c1', c2'⟩ := hr.2 j hjN
        have hbs := hbr.size
        have hnn : sz C (j + 1) = sz C j + (2 + (C2 j).n) := by
          have g1 := HSZ.out j (by omega)
          have g2 := HSZ.out (j + 1) (by omega)
          have g3 : sz C2 (j + 1) = sz C2 j + (2 + (C2 j).n) := rfl
          omega
        have hsm := sz_mono C (j + 1) N (by omega)
        have HNN := Lib.hid hnn
        have hss := HS.out
        have hiff := HSL.out j (by omega)
        have HBR := Lib.hid (hbr.alloc hbs (.cells #[.int .u8 (C2 j).ty, .slice (C2 j).A (C2 j).n (C2 j).c] 27))
        by_cases hle : j ≤ m'
        · have q2 : ((sz C j : Nat) : Int) ≤ (n : Int) := by have := hiff.2 hle; omega
          have q3 : ((sz C j : Nat) : Int) + (2 + ((C2 j).n : Int)) ≤ 1492 := by omega
          have hmin : min (j + 1 - 1) m' = j := by omega
          have HMN := Lib.hid hmin
          clear hiff hnn hsm hss hr c2' hmin hbr
          generalize hs' : sz C j = s' at *
          generalize hn' : (C2 j).n = n' at *
          generalize hb' : sz C (min (j - 1) m') = b' at *
          have HS' := Lib.hid hs'
          clear hs' hn' hb'
          go_wp2
          go_roundw
          case rel => exact ⟨j + 1, by omega, by go_num, by rw [HNN.out]; go_num, by rw [HMN.out, HS'.out], HBR.out⟩
          case measure => simp only [intOf]; omega
        · have q2 : ¬ ((sz C j : Nat) : Int) ≤ (n : Int) := by have := mt hiff.1 hle; omega
          have q3 : ((sz C j : Nat) : Int) + (2 + ((C2 j).n : Int)) ≤ 1492 := by omega
          have hmin : min (j + 1 - 1) m' = min (j - 1) m' := by omega
          have HMN := Lib.hid hmin
          clear hiff hnn hsm hss hr c2' hmin hbr
          generalize hs' : sz C j = s' at *
          generalize hn' : (C2 j).n = n' at *
          generalize hb' : sz C (min (j - 1) m') = b' at *
          have HB' := Lib.hid hb'
          clear hs' hn' hb'
          go_wp2
          go_roundw
          case rel => exact ⟨j + 1, by omega, by go_num, by rw [HNN.out]; go_num, by rw [HMN.out, HB'.out], HBR.out⟩
          case measure => simp only [intOf]; omega
      · obtain rfl : j = N := by omega
        have BF := Lib.hid (B15.out.trans (hbr.mono B15.out.size))
        have hiff := HSL.out j (Nat.le_refl _)
        have hbord : (if sz C j ≤ n then sz C j else sz C (min (j - 1) m')) = sz C m' := by
          by_cases h : sz C j ≤ n
          · rw [if_pos h]
            have := hiff.1 h
            have := HX1.out
            rw [show j = m' by omega]
          · rw [if_neg h]
            have := mt hiff.2 h
            rw [show min (j - 1) m' = m' by omega]
        clear hiff hbr
        by_cases hle : sz C j ≤ n
        · rw [if_pos hle] at hbord
          have q2 : ((sz C j : Nat) : Int) ≤ (n : Int) := by omega
          clear hle
          · rcases HL.out with ⟨rfl, h1⟩ | ⟨rfl, h1, rfl⟩
            · have h2 : sz C j = n := by rw [hbord]; exact h1
              have h3 : ((sz C j : Nat) : Int) = (n : Int) := by omega
              have H3 := Lib.hid h3
              generalize hA' : sz C j = s' at *
              generalize hB' : sz C (min (j - 1) m') = b' at *
              have h4 := H3.out
              clear h1 h2 h3 hbord hA' hB' H3
              go_wp2
              go_ret
              exact ⟨rfl, BF.out⟩
            · have h2 : sz C j ≠ n := by rw [hbord]; exact h1
              have h3 : ¬ ((sz C j : Nat) : Int) = (n : Int) := by omega
              have h3b : (((sz C j : Nat) : Int) == (n : Int)) = false := by simpa using h3
              generalize hA' : sz C j = s' at *
              generalize hB' : sz C (min (j - 1) m') = b' at *
              clear h1 h2 hbord hA' hB'
              go_wp2
              go_ret
              exact ⟨rfl, BF.out⟩
        · rw [if_neg hle] at hbord
          have q2 : ¬ ((sz C j : Nat) : Int) ≤ (n : Int) := by omega
          clear hle
          · rcases HL.out with ⟨rfl, h1⟩ | ⟨rfl, h1, rfl⟩
            · have h2 : sz C (min (j - 1) m') = n := by rw [hbord]; exact h1
              have h3 : ((sz C (min (j - 1) m') : Nat) : Int) = (n : Int) := by omega
              have H3 := Lib.hid h3
              generalize hA' : sz C j = s' at *
              generalize hB' : sz C (min (j - 1) m') = b' at *
              have h4 := H3.out
              clear h1 h2 h3 hbord hA' hB' H3
              go_wp2
              go_ret
              exact ⟨rfl, BF.out⟩
            · have h2 : sz C (min (j - 1) m') ≠ n := by rw [hbord]; exact h1
              have h3 : ¬ ((sz C (min (j - 1) m') : Nat) : Int) = (n : Int) := by omega
              have h3b : (((sz C (min (j - 1) m') : Nat) : Int) == (n : Int)) = false := by simpa using h3
              generalize hA' : sz C j = s' at *
              generalize hB' : sz C (min (j - 1) m') = b' at *
              clear h1 h2 hbord hA' hB'
              go_wp2
              go_ret
              exact ⟨rfl, BF.out⟩
  · have hB := Lib.hid (B5.out.trans ((B58.out.trans (hb9.mono s58)).mono B5.out.size))
    have HPt := Lib.hid hpart
    clear hb9 hpart
    rcases C1.out with ⟨rfl, h1, h2, _⟩ | ⟨rfl, h1, h2⟩
    · rcases C2.out with ⟨rfl, g1, g2, _⟩ | ⟨rfl, g1, g2⟩
      · have hsum : 1492 < pn + qn := by
          subst h1 g1
          have := ends_part E1.out E2.out E3.out HPt.out
          have a1 := sz_congr (fun j hj => (HL1.out j hj).2.1) m0 (Nat.le_refl _)
          have a2 := sz_congr (fun j hj => (HM1.out j hj).2.1) k0 (Nat.le_refl _)
          omega
        have q1 : (1492 : Int) < (pn : Int) + (qn : Int) := by omega
        clear h1 h2 g1 g2 hsum
        go_wp2
        go_ret
        exact ⟨rfl, hB.out⟩
      · clear h1 h2 g1 g2
        go_wp2
        go_ret
        exact ⟨rfl, hB.out⟩
    · clear h1 h2
      go_wp2
      go_ret
      exact ⟨rfl, hB.out⟩

theorem walkTlvParts (A : Option Addr) (m c : Nat) (L : Nat → It) (B : Option Addr) (k d : Nat) (M : Nat → It) (cut : Int) (w : World) (h : RdT w A m L ∧ (A = none → m = 0 ∧ c = 0) ∧ m ≤ c ∧ c * 32 ≤ 140737488351232) (hm : m ≤ 1048576)
    (h' : RdT w B k M ∧ (B = none → k = 0 ∧ d = 0) ∧ k ≤ d ∧ d * 32 ≤ 140737488351232) (hk : k ≤ 1048576) (hw : (Lit.int .u16 cut).wf = true) :
    Calls Try.prog 5 #[.slice A m c, .slice B k d, .int .u16 cut] w fun e w' => e = .returned (.bool true) ∧ Below w.heap.size w w' :=
  parts_any A B m c k d cut L M w h.1 h'.1 hm hk (wf_u16 hw) h'.2.1
end Go.Proofs.Ytpbippipmcpjeab
