/- TrieForgets, walked: a prefix that comes and goes leaves all as it was. No condition. -/
import Derived.Test.YtadmiadallflfaaTrRw
import Derived.Test.YtadmiadallflfaaTrAw
import Derived.Test.YtadmiadallflfaaTrSp
import Derived.Test.YtadmiadallflfaaTrO
namespace Go.Proofs.Ytadmiadallflfaa
open Go.RowKit
set_option linter.unusedVariables false
set_option linter.unusedSimpArgs false

set_option maxHeartbeats 64000000 in
set_option maxRecDepth 100000 in
theorem walkTrieForgets (a0 : Option Addr) (len0 cap0 : Nat) (L0 : Nat → Pf) (x1 : Pf) (a2 : Int) (x3 : Nat → Int) (w : World) (h0 : InPf w a0 len0 cap0 L0) (h1 : PvOk x1) (h2 : (Lit.int .u8 a2).wf = true) (h3 : Bytes x3) :
    Calls Try.prog 6 #[.slice a0 len0 cap0, .agg (pfC x1), .int .u8 a2, .agg (agC x3)] w fun e w' => e = .returned (.bool true) ∧ Below w.heap.size w w' := by
  have HL := Lib.hid h0
  have HX1 := Lib.hid h1.2.2
  have HX3 := Lib.hid h3
  have HAW := Lib.hid awake_any
  clear h0 h1 h2 h3
  go_enter Try.func6, Try.ntmps6
  have HB := Lib.hid (Below.refl w.heap.size w)
  obtain ⟨N1, hN1⟩ : ∃ N, w.heap.size = N := ⟨_, rfl⟩
  have HN1 := Lib.hid hN1
  clear hN1
  go_wp2_with (refine wpList_box (op := ⟨some 5, _, _, _, _, _⟩) rfl 32 (.tmp 1) rfl (pfC x1) rfl N1 HN1.out ?_; intro w1 k1 b1 s1; refine Hid.out ?_)
  refine Lib.hid ?_
  have K5 := Lib.hid k1
  clear k1
  have le_HB_N1 : w.heap.size ≤ N1 := by rw [← HN1.out]; exact HB.out.size
  have HBn := Lib.hid (HB.out.trans (b1.mono HB.out.size))
  clear HB
  have HB := HBn
  clear HBn
  clear b1 HN1
  obtain ⟨N2, hN2⟩ : ∃ N, w1.heap.size = N := ⟨_, rfl⟩
  have HN2 := Lib.hid hN2
  clear hN2
  go_wp2_with (refine wpList_box (op := ⟨some 7, _, _, _, _, _⟩) rfl 23 (.tmp 3) rfl (agC x3) rfl N2 HN2.out ?_; intro w2 k1 b1 s1; refine Hid.out ?_)
  refine Lib.hid ?_
  have K7 := Lib.hid k1
  clear k1
  have lt_N1_N2 : N1 < N2 := by rw [← HN2.out]; exact K5.out.lt
  have le_HB_N2 : w.heap.size ≤ N2 := by rw [← HN2.out]; exact HB.out.size
  have K5n := Lib.hid (K5.out.below b1 K5.out.lt)
  clear K5
  have K5 := K5n
  clear K5n
  have HBn := Lib.hid (HB.out.trans (b1.mono HB.out.size))
  clear HB
  have HB := HBn
  clear HBn
  clear b1 HN2
  go_wp2_with fail
  refine (HAW.out _).mono ?_
  rintro e w3 ⟨rfl, b1⟩
  have K5n := Lib.hid (K5.out.below b1 K5.out.lt)
  clear K5
  have K5 := K5n
  clear K5n
  have K7n := Lib.hid (K7.out.below b1 K7.out.lt)
  clear K7
  have K7 := K7n
  clear K7n
  have HBn := Lib.hid (HB.out.trans (b1.mono HB.out.size))
  clear HB
  have HB := HBn
  clear HBn
  clear b1
  go_wp2_with fail
  refine (new_any w3).mono ?_
  rintro e w5 ⟨rfl, ht, hb⟩
  obtain ⟨s, hs⟩ : ∃ s, w3.heap.size = s := ⟨_, rfl⟩
  rw [hs] at ht ⊢
  have lt5 : N1 < s := by rw [← hs]; exact K5.out.lt
  have lt7 : N2 < s := by rw [← hs]; exact K7.out.lt
  have HS0 : Hid (w.heap.size ≤ s) := Lib.hid (by rw [← hs]; exact HB.out.size)
  have HT := Lib.hid ht
  have K5n := Lib.hid (K5.out.below hb K5.out.lt)
  clear K5
  have K5 := K5n
  clear K5n
  have K7n := Lib.hid (K7.out.below hb K7.out.lt)
  clear K7
  have K7 := K7n
  clear K7n
  have HBn := Lib.hid (HB.out.trans (hb.mono HB.out.size))
  clear HB
  have HB := HBn
  clear HBn
  clear hs ht hb
  have HL5 : Hid (RdR w5 a0 len0 18 (fun j => pfC (L0 j))) := Lib.hid (HL.out.1.below HB.out rfl)
  have HRS : Hid (∀ b o, a0 = some ⟨b, o, none⟩ → 0 < len0 → b < s) := Lib.hid (fun b o h h9 => by obtain ⟨b2, o2, e1, r1⟩ := HL.out.1.row h9; rw [h] at e1; cases e1; exact Nat.lt_of_lt_of_le r1.1 HS0.out)
  have HG0 : Hid (∀ k, kyP x1.fam x1.len x1.z = some k → (⟨.nil, .nil⟩ : Ts).G k = none) := Lib.hid (fun k _ => by cases k with | mk a b => cases a <;> rfl)
  go_wp2_with fail
  have HLEN : Hid (len0 ≤ 140737488351232) := Lib.hid (Nat.le_trans HL.out.2.2.2.1 HL.out.2.2.2.2)
  go_loopw [27] (fun t wr => ∃ (i : Nat) (T : Ts), i ≤ len0 ∧ t = .int .i64 i ∧ Hid (TsAt wr s s T) ∧ Hid (T.sz ≤ 2 * min i 100) ∧ Hid (∀ k, kyP x1.fam x1.len x1.z = some k → T.G k = none) ∧ Hid (Below s w5 wr)) (fun t _ => len0 - (intOf t).toNat)
  case atStart => exact ⟨0, ⟨.nil, .nil⟩, by omega, rfl, HT, Lib.hid (by decide), HG0, Lib.hid (Below.refl _ _)⟩
  case round =>
    obtain ⟨i, T, hi, rfl, ht, hsz, hg, hb⟩ := hrel
    clear HT HG0
    have HT := ht
    have HSZ := hsz
    have HG := hg
    have HBs := hb
    clear ht hsz hg hb
    by_cases hin : i < len0
    · have HIN := Lib.hid hin
      have hii : (i : Int) < (len0 : Int) := by omega
      have hi0 : (0 : Int) ≤ (i : Int) := by omega
      have hib : (i : Int) < 140737488351232 := by have := HLEN.out; omega
      clear hin hi
      obtain ⟨b0, o0, rfl, r0⟩ := HL5.out.row (by have := HIN.out; omega)
      have R0 := Lib.hid r0
      have HB0 := Lib.hid (HRS.out b0 o0 rfl (by have := HIN.out; omega))
      clear r0
      go_wp2_with (refine wpList_ld (op := ⟨some 31, _, _, _, _, _⟩) (by rfl) 32 (.tmp 30) rfl b0 (o0 + i * 18) rfl (pfC (L0 i)) _ (rdR_at R0.out HBs.out HB0.out i HIN.out) Try.underlying32 rfl (hi_pv _ _ _) ?_; refine Hid.out ?_)
      refine Lib.hid ?_
      obtain ⟨y, hy⟩ : ∃ y, L0 i = y := ⟨_, rfl⟩
      have HY : Hid (PvOk y) := Lib.hid (hy ▸ HL.out.2.1 i)
      rw [hy]
      clear hy
      obtain ⟨NK11, hNK11⟩ : ∃ N, wr.heap.size = N := ⟨_, rfl⟩
      have HNK11 := Lib.hid hNK11
      clear hNK11
      go_wp2_with (refine wpList_new (op := ⟨some 11, _, _, _, _, _⟩) rfl 32 rfl (pvC 0 0 Z0) zero_pvT NK11 HNK11.out ?_; intro w6 k1 b1 s1; refine Hid.out ?_)
      refine Lib.hid ?_
      have KX := Lib.hid k1
      have BX := Lib.hid b1
      clear k1 b1 s1
      go_wp2_with (refine wpList_st rfl 32 (.tmp 11) (.tmp 31) rfl NK11 0 rfl (.agg (pfC y)) (pfC y) rfl rfl info_pv (all_pv _ _ _) KX.out (Nat.le_of_ble_eq_true rfl) (C' := pfC y) (pv_over _ _ _ _ _ _) ?_; intro w7 q1; refine Hid.out ?_)
      refine Lib.hid ?_
      have b1 : Below wr.heap.size wr w7 := BX.out.trans (q1.2.1 _ (by rw [HNK11.out]; exact Nat.le_refl _))
      have HBsn := Lib.hid (HBs.out.trans (b1.mono (Nat.le_of_lt HT.out.lt)))
      clear HBs
      have HBs := HBsn
      clear HBsn
      have HTn := Lib.hid (HT.out.below b1 HT.out.lt)
      clear HT
      have HT := HTn
      clear HTn
      have K11 : Hid (Blk 32 w7 NK11 (pfC y)) := Lib.hid q1.1
      clear KX BX q1 b1 HNK11
      by_cases h100 : i < 100
      · have h1i : (i : Int) < 100 := by omega
        have H100 := Lib.hid h100
        clear h100
        go_wp2_with (refine wpList_ld (op := ⟨some 35, _, _, _, _, _⟩) (by rfl) 32 (.tmp 11) rfl NK11 0 rfl (pfC y) _ (K11.out.all) Try.underlying32 rfl (hi_pv _ _ _) ?_; refine Hid.out ?_)
        refine Lib.hid ?_
        go_wp2_with (refine wpList_ld (op := ⟨some 36, _, _, _, _, _⟩) (by rfl) 32 (.tmp 5) rfl N1 0 rfl (pfC x1) _ ((K5.out.below HBs.out lt5).all) Try.underlying32 rfl (hi_pv _ _ _) ?_; refine Hid.out ?_)
        refine Lib.hid ?_
        by_cases hq : y.fam = x1.fam ∧ y.len = x1.len ∧ Same16 y.z x1.z
        · have HQ := Lib.hid hq
          clear hq
          go_wp2_with (refine wpList_gv (op := ⟨some 37, _, _, _, _, _⟩) (.bool false) (by rfl) ((neq_pv _ _ _ _ rfl y.fam y.len y.z x1.fam x1.len x1.z HY.out.2.2 HX1.out rfl rfl _).trans (by rw [decide_eq_true HQ.out]; rfl)) ?_; refine Hid.out ?_)
          refine Lib.hid ?_
          go_wp2
          go_roundw
          case rel => exact ⟨i + 1, T, by have := HIN.out; omega, by go_num, HT, Lib.hid (by have := HSZ.out; have := H100.out; omega), HG, HBs⟩
          case measure => have := HIN.out; simp only [intOf]; omega
        · have HQ := Lib.hid hq
          clear hq
          go_wp2_with (refine wpList_gv (op := ⟨some 37, _, _, _, _, _⟩) (.bool true) (by rfl) ((neq_pv _ _ _ _ rfl y.fam y.len y.z x1.fam x1.len x1.z HY.out.2.2 HX1.out rfl rfl _).trans (by rw [decide_eq_false HQ.out]; rfl)) ?_; refine Hid.out ?_)
          refine Lib.hid ?_
          go_wp2_with (refine wpList_ld (op := ⟨some 40, _, _, _, _, _⟩) (by rfl) 32 (.tmp 11) rfl NK11 0 rfl (pfC y) _ (K11.out.all) Try.underlying32 rfl (hi_pv _ _ _) ?_; refine Hid.out ?_)
          refine Lib.hid ?_
          go_wp2_with fail
          refine (ins_T s s T y.fam y.len i y.z HY.out.2.2 _ HT.out (Nat.le_of_lt HT.out.lt) (by have := HSZ.out; omega)).mono ?_
          rintro e w8 ⟨T1, rfl, n1⟩
          have K11n := Lib.hid (pv_kp K11.out HT.out n1.kp)
          clear K11
          have K11 := K11n
          clear K11n
          have HBsn := Lib.hid (HBs.out.trans (n1.below HT.out (Nat.le_of_lt HT.out.lt)))
          clear HBs
          have HBs := HBsn
          clear HBsn
          clear HT
          have HT := Lib.hid n1.at_
          have HN := Lib.hid n1
          clear n1
          go_wp2
          go_roundw
          case rel => exact ⟨i + 1, T1, by have := HIN.out; omega, by go_num, HT, Lib.hid (by have := HN.out.sz; have := HSZ.out; have := H100.out; omega), Lib.hid (fun k hk => by
            rw [HN.out.g, if_neg (ky_ne HY.out.2.2 HX1.out HQ.out k hk)]
            exact HG.out k hk), HBs⟩
          case measure => have := HIN.out; simp only [intOf]; omega
      · have h1i : ¬ (i : Int) < 100 := by omega
        have H100 := Lib.hid h100
        clear h100
        go_wp2
        go_roundw
        case rel => exact ⟨i + 1, T, by have := HIN.out; omega, by go_num, HT, Lib.hid (by have := HSZ.out; have := H100.out; omega), HG, HBs⟩
        case measure => have := HIN.out; simp only [intOf]; omega
    · have hii : ¬ (i : Int) < (len0 : Int) := by omega
      have HTA := Lib.hid HT.out
      have HS : Hid (T.sz ≤ 200) := Lib.hid (by have := HSZ.out; omega)
      clear hin hi HSZ HL5 HRS HLEN
      go_wp2_with fail
      refine (list_T s s T wr HT.out (Nat.le_trans HS.out (by decide))).mono ?_
      rintro e w6 ⟨v6, rfl, ho, b1⟩
      obtain ⟨A6, c6, rfl, HR6⟩ := row_of ho
      have HBsn := Lib.hid (HBs.out.trans (b1.mono (Nat.le_of_lt HT.out.lt)))
      clear HBs
      have HBs := HBsn
      clear HBsn
      have HTn := Lib.hid (HT.out.below b1 HT.out.lt)
      clear HT
      have HT := HTn
      clear HTn
      clear b1 ho
      obtain ⟨n6, hn6⟩ : ∃ n, T.cnt = n := ⟨_, rfl⟩
      rw [hn6] at HR6 ⊢
      have HN6 := Lib.hid hn6
      have HN6s : Hid (n6 ≤ 200) := Lib.hid (by rw [← hn6]; exact Nat.le_trans T.cnt_sz HS.out)
      clear hn6
      go_wp2_with (refine wpList_ld (op := ⟨some 49, _, _, _, _, _⟩) (by rfl) 23 (.tmp 7) rfl N2 0 rfl (agC x3) _ ((K7.out.below HBs.out lt7).all) Try.underlying23 rfl (hi_ag x3) ?_; refine Hid.out ?_)
      refine Lib.hid ?_
      go_wp2_with fail
      refine (find_A s s T a2 x3 HX3.out _ HT.out).mono ?_
      rintro e w7 ⟨rfl, b1⟩
      have HR6n := Lib.hid (HR6.out.below b1)
      clear HR6
      have HR6 := HR6n
      clear HR6n
      have HBsn := Lib.hid (HBs.out.trans (b1.mono (Nat.le_of_lt HT.out.lt)))
      clear HBs
      have HBs := HBsn
      clear HBsn
      have HTn := Lib.hid (HT.out.below b1 HT.out.lt)
      clear HT
      have HT := HTn
      clear HTn
      clear b1
      have HFB := Lib.hid (FA_b T a2 x3)
      obtain ⟨Q, hQ⟩ : ∃ Q, T.FA a2 x3 = Q := ⟨_, rfl⟩
      rw [hQ] at HFB ⊢
      have HQ := Lib.hid hQ
      clear hQ
      obtain ⟨Pq, vq, bq, eq⟩ := Q
      have HPB : Hid (Bytes Pq.z) := HFB
      clear HFB
      rw [show faV (Pq, vq, bq, eq) = .tuple #[.agg (pfC Pq), .int .i64 vq, .bool bq, .int .i64 eq] from rfl]
      obtain ⟨NK13, hNK13⟩ : ∃ N, w7.heap.size = N := ⟨_, rfl⟩
      have HNK13 := Lib.hid hNK13
      clear hNK13
      go_wp2_with (refine wpList_new (op := ⟨some 13, _, _, _, _, _⟩) rfl 32 rfl (pvC 0 0 Z0) zero_pvT NK13 HNK13.out ?_; intro w8 k1 b1 s1; refine Hid.out ?_)
      refine Lib.hid ?_
      have KX := Lib.hid k1
      have BX := Lib.hid b1
      clear k1 b1 s1
      go_wp2_with (refine wpList_st rfl 32 (.tmp 13) (.tmp 51) rfl NK13 0 rfl (.agg (pfC Pq)) (pfC Pq) rfl rfl info_pv (all_pv _ _ _) KX.out (Nat.le_of_ble_eq_true rfl) (C' := pfC Pq) (pv_over _ _ _ _ _ _) ?_; intro w9 q1; refine Hid.out ?_)
      refine Lib.hid ?_
      have b1 : Below w7.heap.size w7 w9 := BX.out.trans (q1.2.1 _ (by rw [HNK13.out]; exact Nat.le_refl _))
      have HR6n := Lib.hid (HR6.out.below b1)
      clear HR6
      have HR6 := HR6n
      clear HR6n
      have HBsn := Lib.hid (HBs.out.trans (b1.mono (Nat.le_of_lt HT.out.lt)))
      clear HBs
      have HBs := HBsn
      clear HBsn
      have HTn := Lib.hid (HT.out.below b1 HT.out.lt)
      clear HT
      have HT := HTn
      clear HTn
      have K13 : Hid (Blk 32 w9 NK13 (pfC Pq)) := Lib.hid q1.1
      clear KX BX q1 b1 HNK13
      go_wp2_with (refine wpList_ld (op := ⟨some 56, _, _, _, _, _⟩) (by rfl) 32 (.tmp 5) rfl N1 0 rfl (pfC x1) _ ((K5.out.below HBs.out lt5).all) Try.underlying32 rfl (hi_pv _ _ _) ?_; refine Hid.out ?_)
      refine Lib.hid ?_
      have HT1 := Lib.hid HT.out.ok
      go_wp2_with fail
      refine (ins_T s s T x1.fam x1.len 7 x1.z HX1.out _ HT.out (Nat.le_of_lt HT.out.lt) (Nat.le_trans HS.out (by decide))).mono ?_
      rintro e w10 ⟨T2, rfl, n1⟩
      have K13n := Lib.hid (pv_kp K13.out HT.out n1.kp)
      clear K13
      have K13 := K13n
      clear K13n
      have HR6n := Lib.hid (HR6.out.kp HT.out n1.kp)
      clear HR6
      have HR6 := HR6n
      clear HR6n
      have HBsn := Lib.hid (HBs.out.trans (n1.below HT.out (Nat.le_of_lt HT.out.lt)))
      clear HBs
      have HBs := HBsn
      clear HBsn
      clear HT
      have HT := Lib.hid n1.at_
      have HN2 := Lib.hid n1
      clear n1
      by_cases hF : Form x1.fam x1.len x1.z
      · rw [if_pos hF]
        obtain ⟨n, hn, hn1⟩ := form_nat hF
        have hF2 : Form x1.fam (n : Int) x1.z := by rw [← hn]; exact hF
        obtain ⟨pl, hpl, hky0⟩ := ky_yes hF2
        rw [← hn] at hky0
        have HKY := Lib.hid hky0
        clear hn hn1 hF2 hpl hky0
        have HC2 : Hid (T2.cnt = n6 + 1) := Lib.hid (by have h := HN2.out.cn _ HKY.out; rw [if_pos (HG.out _ HKY.out)] at h; simp at h; have := HN6.out; omega)
        have HS2 : Hid (T2.sz ≤ 202) := Lib.hid (by have := HN2.out.sz; have := HS.out; omega)
        obtain ⟨c2, hc2⟩ : ∃ c, T2.cnt = c := ⟨_, rfl⟩
        have HCC := Lib.hid hc2
        clear hc2 hF
        go_wp2_with fail
        refine (len_any s T2 _ HT.out.blk).mono ?_
        rintro e w11 ⟨rfl, rfl⟩
        rw [HC2.out]
        go_wp2_with (refine wpList_v (op := ⟨some 73, _, _, _, _, _⟩) rfl (.int .i64 ((n6 + 1 : Nat) : Int)) (run_add1 _ _ _ _ _ rfl n6 rfl rfl (by have := HN6s.out; omega) _) ?_; refine Hid.out ?_)
        refine Lib.hid ?_
        go_wp2_with (refine wpList_v (op := ⟨some 74, _, _, _, _, _⟩) rfl (.bool false) (neqN_run _ _ _ _ rfl (n6 + 1) rfl rfl _) ?_; refine Hid.out ?_)
        refine Lib.hid ?_
        go_wp2_with (refine wpList_ld (op := ⟨some 77, _, _, _, _, _⟩) (by rfl) 32 (.tmp 5) rfl N1 0 rfl (pfC x1) _ ((K5.out.below HBs.out lt5).all) Try.underlying32 rfl (hi_pv _ _ _) ?_; refine Hid.out ?_)
        refine Lib.hid ?_
        have hrem : remE T2 (kyP x1.fam x1.len x1.z) = 0 := by
          rw [HKY.out]
          exact if_neg (by rw [HN2.out.g, HKY.out, if_pos rfl]; simp)
        have HREM := Lib.hid hrem
        clear hrem
        go_wp2_with fail
        refine (rem_T s s T2 x1.fam x1.len x1.z HX1.out _ HT.out (Nat.le_of_lt HT.out.lt) (Nat.le_trans HS2.out (by decide))).mono ?_
        rintro e w12 ⟨T3, rfl, n1⟩
        have K13n := Lib.hid (pv_kp K13.out HT.out n1.kp)
        clear K13
        have K13 := K13n
        clear K13n
        have HR6n := Lib.hid (HR6.out.kp HT.out n1.kp)
        clear HR6
        have HR6 := HR6n
        clear HR6n
        have HBsn := Lib.hid (HBs.out.trans (n1.below HT.out (Nat.le_of_lt HT.out.lt)))
        clear HBs
        have HBs := HBsn
        clear HBsn
        clear HT
        have HT := Lib.hid n1.at_
        have HN3 := Lib.hid n1
        clear n1
        rw [HREM.out]
        have HS3 : Hid (T3.sz ≤ 204) := Lib.hid (by have := HN3.out.sz; have := HS2.out; omega)
        have HG3 : Hid (∀ k, T3.G k = T.G k) := Lib.hid (fun k => by
          rw [HN3.out.g, HN2.out.g, HKY.out]
          split
          · rename_i h9; rw [← Option.some.inj h9]; exact (HG.out _ HKY.out).symm
          · rfl)
        go_wp2_with (refine wpList_ld (op := ⟨some 83, _, _, _, _, _⟩) (by rfl) 32 (.tmp 5) rfl N1 0 rfl (pfC x1) _ ((K5.out.below HBs.out lt5).all) Try.underlying32 rfl (hi_pv _ _ _) ?_; refine Hid.out ?_)
        refine Lib.hid ?_
        have hrem : remE T3 (kyP x1.fam x1.len x1.z) = 6 := by
          rw [HKY.out]
          exact if_pos (by rw [HG3.out]; exact HG.out _ HKY.out)
        have HREM3 := Lib.hid hrem
        clear hrem
        go_wp2_with fail
        refine (rem_T s s T3 x1.fam x1.len x1.z HX1.out _ HT.out (Nat.le_of_lt HT.out.lt) (Nat.le_trans HS3.out (by decide))).mono ?_
        rintro e w13 ⟨T4, rfl, n1⟩
        have K13n := Lib.hid (pv_kp K13.out HT.out n1.kp)
        clear K13
        have K13 := K13n
        clear K13n
        have HR6n := Lib.hid (HR6.out.kp HT.out n1.kp)
        clear HR6
        have HR6 := HR6n
        clear HR6n
        have HBsn := Lib.hid (HBs.out.trans (n1.below HT.out (Nat.le_of_lt HT.out.lt)))
        clear HBs
        have HBs := HBsn
        clear HBsn
        clear HT
        have HT := Lib.hid n1.at_
        have HN4 := Lib.hid n1
        clear n1
        rw [HREM3.out]
        have HS4 : Hid (T4.sz ≤ 206) := Lib.hid (by have := HN4.out.sz; have := HS3.out; omega)
        have HG4 : Hid (∀ k, T4.G k = T.G k) := Lib.hid (fun k => by
          rw [HN4.out.g, HKY.out]
          split
          · rename_i h9; rw [← Option.some.inj h9]; exact (HG.out _ HKY.out).symm
          · exact HG3.out k)
        go_wp2_with (refine wpList_ld (op := ⟨some 90, _, _, _, _, _⟩) (by rfl) 23 (.tmp 7) rfl N2 0 rfl (agC x3) _ ((K7.out.below HBs.out lt7).all) Try.underlying23 rfl (hi_ag x3) ?_; refine Hid.out ?_)
        refine Lib.hid ?_
        go_wp2_with fail
        refine (find_A s s T4 a2 x3 HX3.out _ HT.out).mono ?_
        rintro e w14 ⟨rfl, b1⟩
        have K13n := Lib.hid (K13.out.below b1 K13.out.lt)
        clear K13
        have K13 := K13n
        clear K13n
        have HR6n := Lib.hid (HR6.out.below b1)
        clear HR6
        have HR6 := HR6n
        clear HR6n
        have HBsn := Lib.hid (HBs.out.trans (b1.mono (Nat.le_of_lt HT.out.lt)))
        clear HBs
        have HBs := HBsn
        clear HBsn
        have HTn := Lib.hid (HT.out.below b1 HT.out.lt)
        clear HT
        have HT := HTn
        clear HTn
        clear b1
        rw [show T4.FA a2 x3 = (Pq, vq, bq, eq) from (FA_congr HT.out HTA.out HG4.out a2 x3).trans HQ.out]
        rw [show faV (Pq, vq, bq, eq) = .tuple #[.agg (pfC Pq), .int .i64 vq, .bool bq, .int .i64 eq] from rfl]
        obtain ⟨NK18, hNK18⟩ : ∃ N, w14.heap.size = N := ⟨_, rfl⟩
        have HNK18 := Lib.hid hNK18
        clear hNK18
        go_wp2_with (refine wpList_new (op := ⟨some 18, _, _, _, _, _⟩) rfl 32 rfl (pvC 0 0 Z0) zero_pvT NK18 HNK18.out ?_; intro w15 k1 b1 s1; refine Hid.out ?_)
        refine Lib.hid ?_
        have KX := Lib.hid k1
        have BX := Lib.hid b1
        clear k1 b1 s1
        go_wp2_with (refine wpList_st rfl 32 (.tmp 18) (.tmp 92) rfl NK18 0 rfl (.agg (pfC Pq)) (pfC Pq) rfl rfl info_pv (all_pv _ _ _) KX.out (Nat.le_of_ble_eq_true rfl) (C' := pfC Pq) (pv_over _ _ _ _ _ _) ?_; intro w16 q1; refine Hid.out ?_)
        refine Lib.hid ?_
        have b1 : Below w14.heap.size w14 w16 := BX.out.trans (q1.2.1 _ (by rw [HNK18.out]; exact Nat.le_refl _))
        have K13n := Lib.hid (K13.out.below b1 K13.out.lt)
        clear K13
        have K13 := K13n
        clear K13n
        have HR6n := Lib.hid (HR6.out.below b1)
        clear HR6
        have HR6 := HR6n
        clear HR6n
        have HBsn := Lib.hid (HBs.out.trans (b1.mono (Nat.le_of_lt HT.out.lt)))
        clear HBs
        have HBs := HBsn
        clear HBsn
        have HTn := Lib.hid (HT.out.below b1 HT.out.lt)
        clear HT
        have HT := HTn
        clear HTn
        have K18 : Hid (Blk 32 w16 NK18 (pfC Pq)) := Lib.hid q1.1
        clear KX BX q1 b1 HNK18
        go_wp2_with (refine wpList_ld (op := ⟨some 96, _, _, _, _, _⟩) (by rfl) 32 (.tmp 13) rfl NK13 0 rfl (pfC Pq) _ (K13.out.all) Try.underlying32 rfl (hi_pv _ _ _) ?_; refine Hid.out ?_)
        refine Lib.hid ?_
        go_wp2_with (refine wpList_ld (op := ⟨some 97, _, _, _, _, _⟩) (by rfl) 32 (.tmp 18) rfl NK18 0 rfl (pfC Pq) _ (K18.out.all) Try.underlying32 rfl (hi_pv _ _ _) ?_; refine Hid.out ?_)
        refine Lib.hid ?_
        go_wp2_with (refine wpList_v (op := ⟨some 98, _, _, _, _, _⟩) rfl (.bool true) (eql_same _ _ _ _ rfl Pq.fam Pq.len Pq.z HPB.out rfl rfl _) ?_; refine Hid.out ?_)
        refine Lib.hid ?_
        go_wp2_with (refine wpList_gv (op := ⟨some 102, _, _, _, _, _⟩) (.bool true) (by rfl) (eqI_run _ _ _ _ _ rfl vq rfl rfl _) ?_; refine Hid.out ?_)
        refine Lib.hid ?_
        go_wp2_with (refine wpList_gv (op := ⟨some 107, _, _, _, _, _⟩) (.bool true) (by rfl) (eqB_run _ _ _ _ rfl bq rfl rfl _) ?_; refine Hid.out ?_)
        refine Lib.hid ?_
        go_wp2_with (refine wpList_gv (op := ⟨some 112, _, _, _, _, _⟩) (.bool true) (by rfl) (eqI_run _ _ _ _ _ rfl eq rfl rfl _) ?_; refine Hid.out ?_)
        refine Lib.hid ?_
        go_wp2_with fail
        refine (list_T s s T4 w16 HT.out (Nat.le_trans HS4.out (by decide))).mono ?_
        rintro e w17 ⟨v17, rfl, ho, b1⟩
        obtain ⟨A7, c7, rfl, HR7⟩ := row_of ho
        have K13n := Lib.hid (K13.out.below b1 K13.out.lt)
        clear K13
        have K13 := K13n
        clear K13n
        have K18n := Lib.hid (K18.out.below b1 K18.out.lt)
        clear K18
        have K18 := K18n
        clear K18n
        have HR6n := Lib.hid (HR6.out.below b1)
        clear HR6
        have HR6 := HR6n
        clear HR6n
        have HBsn := Lib.hid (HBs.out.trans (b1.mono (Nat.le_of_lt HT.out.lt)))
        clear HBs
        have HBs := HBsn
        clear HBsn
        have HTn := Lib.hid (HT.out.below b1 HT.out.lt)
        clear HT
        have HT := HTn
        clear HTn
        clear b1 ho
        have HC4 : Hid (T4.cnt = n6) := Lib.hid ((cnt_congr HT.out HTA.out HG4.out).trans HN6.out)
        rw [HC4.out] at HR7 ⊢
        have HAL := Lib.hid (pfB_congr (all_congr HT.out HTA.out HG4.out))
        go_wp2_with fail
        refine (sameP A7 A6 n6 c7 c6 (fun j => T4.all.getD j pf0) (fun j => T.all.getD j pf0) (all_b HT.out) (fun j _ => congrFun HAL.out j) (by have := HN6s.out; omega) _ HR7.out.1 HR6.out.1).mono ?_
        rintro e w18 ⟨rfl, b1⟩
        have K13n := Lib.hid (K13.out.below b1 K13.out.lt)
        clear K13
        have K13 := K13n
        clear K13n
        have K18n := Lib.hid (K18.out.below b1 K18.out.lt)
        clear K18
        have K18 := K18n
        clear K18n
        have HR6n := Lib.hid (HR6.out.below b1)
        clear HR6
        have HR6 := HR6n
        clear HR6n
        have HR7n := Lib.hid (HR7.out.below b1)
        clear HR7
        have HR7 := HR7n
        clear HR7n
        have HBsn := Lib.hid (HBs.out.trans (b1.mono (Nat.le_of_lt HT.out.lt)))
        clear HBs
        have HBs := HBsn
        clear HBsn
        have HTn := Lib.hid (HT.out.below b1 HT.out.lt)
        clear HT
        have HT := HTn
        clear HTn
        clear b1
        go_wp2_with fail
        refine (len_any s T4 _ HT.out.blk).mono ?_
        rintro e w19 ⟨rfl, rfl⟩
        rw [HC4.out]
        go_wp2_with (refine wpList_gv (op := ⟨some 125, _, _, _, _, _⟩) (.bool true) (by rfl) ((eqN_run _ _ _ _ rfl n6 n6 rfl rfl _).trans (by simp)) ?_; refine Hid.out ?_)
        refine Lib.hid ?_
        go_wp2
        first | exact ⟨.bool true, by simp [results, Try.f6, go_sem], rfl, HB.out.trans (HBs.out.mono HS0.out)⟩ | (go_ret; exact ⟨rfl, HB.out.trans (HBs.out.mono HS0.out)⟩) | exact bodyPost_ret (v := .bool true) (by simp [results, Try.f6, go_sem]) rfl ⟨rfl, HB.out.trans (HBs.out.mono HS0.out)⟩
      · rw [if_neg hF]
        have HKY := Lib.hid (ky_no hF)
        have HG2 : Hid (∀ k, T2.G k = T.G k) := Lib.hid (fun k => by rw [HN2.out.g, HKY.out, if_neg (by simp)])
        have HC4 : Hid (T2.cnt = n6) := Lib.hid ((cnt_congr HT.out HTA.out HG2.out).trans HN6.out)
        clear hF
        go_wp2_with fail
        refine (len_any s T2 _ HT.out.blk).mono ?_
        rintro e w19 ⟨rfl, rfl⟩
        rw [HC4.out]
        go_wp2_with (refine wpList_gv (op := ⟨some 67, _, _, _, _, _⟩) (.bool true) (by rfl) ((eqN_run _ _ _ _ rfl n6 n6 rfl rfl _).trans (by simp)) ?_; refine Hid.out ?_)
        refine Lib.hid ?_
        go_wp2
        first | exact ⟨.bool true, by simp [results, Try.f6, go_sem], rfl, HB.out.trans (HBs.out.mono HS0.out)⟩ | (go_ret; exact ⟨rfl, HB.out.trans (HBs.out.mono HS0.out)⟩) | exact bodyPost_ret (v := .bool true) (by simp [results, Try.f6, go_sem]) rfl ⟨rfl, HB.out.trans (HBs.out.mono HS0.out)⟩
end Go.Proofs.Ytadmiadallflfaa
