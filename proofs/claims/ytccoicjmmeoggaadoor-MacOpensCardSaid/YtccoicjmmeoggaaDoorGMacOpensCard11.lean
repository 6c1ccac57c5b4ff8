/- Texts of this claim put together; each theorem states its conditions. -/
import Derived.Test.YtccoicjmmeoggaaDoorGMacOpensCard10
import Derived.Test.YtccoicjmmeoggaaDoorGMacOpensCard8
import Derived.BigQuiet
import Derived.Deep.QuietTactic
import Derived.Test.YtccoicjmmeoggaaDoorGMacOpensCard4
import Derived.Test.YtccoicjmmeoggaaDoorGMacOpensCard9
import Derived.Test.YtccoicjmmeoggaaDoorGMacOpensCard2
import Derived.Test.YtccoicjmmeoggaaDoorCards
import Derived.Test.YtccoicjmmeoggaaDoorTie
import Derived.Test.YtccoicjmmeoggaaDoorGMacOpensCard1
import Derived.WalkKit
import Derived.ProofKit
import Derived.OpenShut
import Derived.LaidMore
import Derived.Deep.DeepHandedRow
import Derived.Deep.DeepWitnessRowRef
import Derived.Lib.LaidTab
import Derived.Stop.LaidErr
import Derived.ChangeOld
import Derived.SizedLaws
/- The document's DocOpen: what it answers, for all bytes and keys. Each theorem states its conditions. -/
namespace Go.Proofs.YtccoicjmmeoggaaDoor
open Go.RowKit
set_option linter.unusedVariables false
set_option linter.unusedSimpArgs false

theorem build_pd0R (o : Oper) (e : Operand → Value) (ho : o.op = .build 42 #[]) (W : World) : (execOp e o).run Tryd.prog W = .ok (.value (.agg (pdC pd0))) W := by
  unfold execOp
  simp only [ho]
  kernel_rfl
theorem OwnT.farR {w w' : World} {base m b : Nat} {v : Value} {L : Nat → It} {C C0 : Array Value} {t : TypeId} (h : OwnT w base v m L) (hb : Blk 42 w b C0) (hs : Stored w w' b C t) : OwnT w' base v m L := by
  refine ⟨⟨h.1.1, ?_⟩, fun j hj => ?_⟩
  · rcases h.1.2 with h1 | ⟨g, cap, cur, hv, hg, hc, r⟩
    · exact .inl h1
    · refine .inr ⟨g, cap, cur, hv, hg, (hs.2.2 g fun e => ?_).trans hc, r⟩
      subst e
      have hb' : w.heap[g]? = _ := hb
      rw [hc] at hb'
      injection hb' with hb'
      injection hb' with _ hb' _
      exact absurd hb' (by decide)
  · obtain ⟨h1, h2, g, h3, h4, h5⟩ := h.2 j hj
    refine ⟨h1, h2, g, h3, h4, h5.block (hs.2.2 g fun e => ?_)⟩
    subst e
    obtain ⟨⟨cur, hc, _⟩, _⟩ := h5
    have hb' : w.heap[g]? = _ := hb
    rw [hc] at hb'
    injection hb' with hb'
    injection hb' with _ hb' _
    exact absurd hb' (by decide)
theorem cellsT_take (L : Nat → It) {k m : Nat} (h : k ≤ m) : cellsT L k = (cellsT L m).take (k * 2) := by
  induction m with
  | zero => obtain rfl : k = 0 := by omega
            rfl
  | succ m ih =>
    by_cases e : k = m + 1
    · subst e; rw [List.take_of_length_le (by rw [cellsT_len]; exact Nat.le_refl _)]
    · have hk : k ≤ m := by omega
      rw [ih hk]
      simp only [cellsT]
      rw [List.take_append_of_le_length (by rw [cellsT_len]; omega)]
theorem OwnT.cut {w : World} {base m k c : Nat} {A : Option Addr} {L : Nat → It} (h : OwnT w base (.slice A m c) m L) (hk : k ≤ m) (hm : 0 < m) : OwnT w base (.slice A k c) k L := by
  refine ⟨⟨cellsT_len _ _, .inr ?_⟩, fun j hj => h.2 j (by omega)⟩
  rcases h.1.2 with ⟨h1, h2⟩ | ⟨g, cap, cur, hv, hg, hc, h1, h2, h3, h4⟩
  · omega
  · injection hv with e1 e2 e3
    subst e1 e3
    refine ⟨g, c, cur, rfl, hg, hc, by omega, h2, h3, ?_⟩
    have : cellsT L k = (cellsT L m).take (k * 2) := cellsT_take L hk
    rw [this, ← h4, List.take_take, Nat.min_eq_left (by omega)]
/-- is a key too long? -/
def lgB (K : Nat → It) (m : Nat) : Nat → Bool
  | 0 => decide (8 < m)
  | k + 1 => lgB K m k || decide (64 < (K k).n)
/-- is a key empty? -/
def noB (K : Nat → It) : Nat → Bool
  | 0 => false
  | k + 1 => noB K k || decide ((K k).n = 0)
theorem lgB_far {K : Nat → It} {m : Nat} (h : 8 < m) (k : Nat) : lgB K m k = true := by
  induction k with
  | zero => simpa [lgB] using h
  | succ k ih => simp [lgB, ih]
theorem ck_b {K : Nat → It} {m : Nat} (h : ¬ 8 < m) (k : Nat) : ckE K k = if lgB K m k = true then 2 else if noB K k = true then 3 else 0 := by
  induction k with
  | zero => simp [ckE, lgB, noB, h]
  | succ k ih =>
    have key : ∀ (a b : Bool) (n : Nat), lea (if a = true then 2 else if b = true then 3 else 0) (secE n) = if (a || decide (64 < n)) = true then 2 else if (b || decide (n = 0)) = true then 3 else 0 := by
      intro a b n
      by_cases h1 : 64 < n
      · have h2 : ¬ n = 0 := by omega
        cases a <;> cases b <;> simp [secE, lea, h1, h2]
      · by_cases h2 : n = 0
        · cases a <;> cases b <;> simp [secE, lea, h2]
        · cases a <;> cases b <;> simp [secE, lea, h1, h2]
    simp only [ckE, lgB, noB]
    rw [ih]
    exact key _ _ _
theorem keys_b (K : Nat → It) (m : Nat) : keysE K m = if lgB K m m = true then 2 else if noB K m = true then 3 else 0 := by
  unfold keysE
  by_cases h : 8 < m
  · rw [if_pos h, lgB_far h, if_pos rfl]
  · rw [if_neg h]; exact ck_b h m
theorem qbel (W : World) (n : Nat) : Below W.heap.size W (W.drewN n) := ⟨rfl, rfl, rfl, Nat.le_refl _, fun _ _ => rfl⟩
theorem gtr_run (o : Oper) (e : Operand → Value) (x y : Operand) (t s : TypeId) (ho : o.op = .binOp .gtr t x y s) (n k : Nat) (h0 : e x = .int .i64 (n : Int)) (h1 : e y = .int .i64 (k : Int)) (W : World) : (execOp e o).run Tryd.prog W = .ok (.value (.bool (decide (k < n)))) W := by
  unfold execOp
  simp only [ho, h0, h1]
  by_cases h : k < n
  · have h2 : (k : Int) < (n : Int) := by omega
    simp [go_sem, h, h2]
  · have h2 : ¬ (k : Int) < (n : Int) := by omega
    simp [go_sem, h, h2]
set_option maxHeartbeats 40000000 in
set_option maxRecDepth 100000 in
theorem docOpen_no (B : Option Addr) (n c : Nat) (z : Nat → Int) (A : Option Addr) (mk ck : Nat) (K : Nat → It) (E : Int) (w : World) (hE : E = 2 ∨ E = 3 ∨ E = 8) (hrd : ∀ w, Rd w B n z → Calls Tryd.prog 48 #[.slice B n c] w (RdErr w E)) (hB : Rd w B n z) (hK : RdK w A mk K) (hmk : mk ≤ 140737488351232) :
    Calls Tryd.prog 23 #[.slice B n c, .slice A mk ck] w (RdErr w (lea E (keysE K mk))) := by
  have HRD := Lib.hid hrd
  have HBB := Lib.hid hB
  have HK := Lib.hid hK
  have BE := Lib.hid hE
  have HMK := Lib.hid hmk
  clear hrd hB hK hE
  go_enter Tryd.func23, Tryd.ntmps23
  have HB := Lib.hid (Below.refl w.heap.size w)
  obtain ⟨N1, hN1⟩ : ∃ N, w.heap.size = N := ⟨_, rfl⟩
  have HN1 := Lib.hid hN1
  clear hN1
  go_wp2_with (refine wpList_new (op := ⟨some 4, _, _, _, _, _⟩) rfl 42 rfl (pdC pd0) zero_pdR N1 HN1.out ?_; intro w1 k1 b1 s1; refine Hid.out ?_)
  refine Lib.hid ?_
  have K4 := Lib.hid k1
  clear k1
  have le_HB_N1 : w.heap.size ≤ N1 := by rw [← HN1.out]; exact HB.out.size
  have HBn := Lib.hid (HB.out.trans (b1.mono HB.out.size))
  clear HB
  have HB := HBn
  clear HBn
  clear b1 HN1
  go_wp2_with fail
  refine (HRD.out w1 (HBB.out.below HB.out rfl)).mono ?_
  rintro e w10 ⟨rfl, b1⟩
  have K4n := Lib.hid (K4.out.below b1 K4.out.lt)
  clear K4
  have K4 := K4n
  clear K4n
  have HBn := Lib.hid (HB.out.trans (b1.mono HB.out.size))
  clear HB
  have HB := HBn
  clear HBn
  clear b1
  obtain ⟨N11, hN11⟩ : ∃ N, w10.heap.size = N := ⟨_, rfl⟩
  have HN11 := Lib.hid hN11
  clear hN11
  go_wp2_with (refine wpList_new (op := ⟨some 6, _, _, _, _, _⟩) rfl 42 rfl (pdC pd0) zero_pdR N11 HN11.out ?_; intro w11 k1 b1 s1; refine Hid.out ?_)
  refine Lib.hid ?_
  have K6 := Lib.hid k1
  clear k1
  have lt_N1_N11 : N1 < N11 := by rw [← HN11.out]; exact K4.out.lt
  have le_HB_N11 : w.heap.size ≤ N11 := by rw [← HN11.out]; exact HB.out.size
  have K4n := Lib.hid (K4.out.below b1 K4.out.lt)
  clear K4
  have K4 := K4n
  clear K4n
  have HBn := Lib.hid (HB.out.trans (b1.mono HB.out.size))
  clear HB
  have HB := HBn
  clear HBn
  clear b1 HN11
  go_wp2_with (refine wpList_st rfl 42 (.tmp 6) (.tmp 21) rfl N11 0 rfl (.agg (pdC pd0)) (pdC pd0) rfl rfl info_pdR (pdC_one _) K6.out (Nat.le_of_ble_eq_true rfl) (C' := pdC pd0) (pd_over _ _) ?_; intro w20 q1; refine Hid.out ?_)
  refine Lib.hid ?_
  have K4n := Lib.hid (K4.out.far q1 (by omega))
  clear K4
  have K4 := K4n
  clear K4n
  have HBn := Lib.hid (HB.out.trans (q1.2.1 _ (by omega)))
  clear HB
  have HB := HBn
  clear HBn
  have K6n : Hid (Blk 42 w20 N11 (pdC pd0)) := Lib.hid q1.1
  clear K6
  have K6 := K6n
  clear K6n q1
  go_wp2_with (refine wpList_v (op := ⟨some 25, _, _, _, _, _⟩) rfl (.bool (lgB K mk 0)) (gtr_run _ _ _ _ _ _ rfl mk 8 rfl rfl _) ?_; refine Hid.out ?_)
  refine Lib.hid ?_
  go_wp2_with fail
  go_loopw [8, 9, 28] (fun a b i wr => ∃ k : Nat, k ≤ mk ∧ i = .int .i64 (k : Int) ∧ a = .bool (lgB K mk k) ∧ b = .bool (noB K k) ∧ Hid (Below w20.heap.size w20 wr)) (fun _ _ i _ => mk - (intOf i).toNat)
  case atStart => exact ⟨0, by omega, rfl, rfl, rfl, Lib.hid (Below.refl _ _)⟩
  case round => as_aux_lemma =>
    obtain ⟨k, hk, rfl, rfl, rfl, HC⟩ := hrel
    by_cases hlt : k < mk
    · have hki : (k : Int) < (mk : Int) := by omega
      obtain ⟨b, off, rfl, hr⟩ := ((HK.out.below HB.out).below HC.out).1.row (by omega)
      have hr2 := Lib.hid (rdK_rng hr k hlt)
      clear hr
      obtain ⟨kn, hkn⟩ : ∃ a, (K k).n = a := ⟨_, rfl⟩
      obtain ⟨bl, hbl⟩ : ∃ a, lgB K mk k = a := ⟨_, rfl⟩
      obtain ⟨bn, hbn⟩ : ∃ a, noB K k = a := ⟨_, rfl⟩
      rw [hbl, hbn]
      have HL1 : Hid (lgB K mk (k + 1) = (bl || decide (64 < kn))) := Lib.hid (by simp only [lgB]; rw [hbl, hkn])
      have HN1 : Hid (noB K (k + 1) = (bn || decide (kn = 0))) := Lib.hid (by simp only [noB]; rw [hbn, hkn])
      have HKN := Lib.hid hkn
      clear hkn hbl hbn
      go_wp2_with (refine wpList_ld (op := ⟨some 31, _, _, _, _, _⟩) (by rfl) 45 (.tmp 30) rfl b (off + k * 2) rfl (kC (K k)) _ hr2.out Tryd.underlying45 rfl info_key ?_; refine Hid.out ?_)
      refine Lib.hid ?_
      clear hr2
      obtain ⟨N101, hN101⟩ : ∃ N, wr.heap.size = N := ⟨_, rfl⟩
      have HN101 := Lib.hid hN101
      clear hN101
      go_wp2_with (refine wpList_new (op := ⟨some 11, _, _, _, _, _⟩) rfl 45 rfl (kC ⟨0, none, 0, 0, nou⟩) zero_key2 N101 HN101.out ?_; intro w101 k1 b1 s1; refine Hid.out ?_)
      refine Lib.hid ?_
      have K11 := Lib.hid k1
      clear k1
      have le_HC_N101 : w20.heap.size ≤ N101 := by rw [← HN101.out]; exact HC.out.size
      have HCn := Lib.hid (HC.out.trans (b1.mono HC.out.size))
      clear HC
      have HC := HCn
      clear HCn
      clear b1 HN101
      go_wp2_with (refine wpList_st rfl 45 (.tmp 11) (.tmp 31) rfl N101 0 rfl (.agg (kC (K k))) (kC (K k)) rfl rfl info_key (kC_one _) K11.out (Nat.le_of_ble_eq_true rfl) (C' := kC (K k)) (by rfl) ?_; intro w102 q1; refine Hid.out ?_)
      refine Lib.hid ?_
      have HCn := Lib.hid (HC.out.trans (q1.2.1 _ (by omega)))
      clear HC
      have HC := HCn
      clear HCn
      have K11n : Hid (Blk 45 w102 N101 (kC (K k))) := Lib.hid q1.1
      clear K11
      have K11 := K11n
      clear K11n q1
      have c11 : w102.cell? ⟨N101, 1, none⟩ = some (.slice (K k).A kn (K k).c) := (K11.out.cell 1).trans (by rw [← HKN.out]; rfl)
      clear K11 HKN
      cases bl <;> cases bn
      · by_cases h6 : 64 < kn
        · have h7 : (64 : Int) < (kn : Int) := by omega
          have h8 : decide (64 < kn) = true := by simp; omega
          by_cases h0 : kn = 0
          · omega
          · have h9 : ((kn : Int) == 0) = false := by simp; omega
            have hn0 : (decide (kn = 0)) = false := by simp; omega
            go_wp2_with fail
            go_roundw
            case rel => exact ⟨k + 1, by omega, by go_num, by rw [HL1.out]; rw [h8]; rfl, by rw [HN1.out]; rw [hn0]; rfl, HC⟩
            case measure => simp only [intOf]; omega
        · have h7 : ¬ (64 : Int) < (kn : Int) := by omega
          have h8 : decide (64 < kn) = false := by simp; omega
          by_cases h0 : kn = 0
          · subst h0
            have h9 : (((0 : Nat) : Int) == 0) = true := rfl
            go_wp2_with fail
            go_roundw
            case rel => exact ⟨k + 1, by omega, by go_num, by rw [HL1.out]; rw [h8]; rfl, by rw [HN1.out]; rfl, HC⟩
            case measure => simp only [intOf]; omega
          · have h9 : ((kn : Int) == 0) = false := by simp; omega
            have hn0 : (decide (kn = 0)) = false := by simp; omega
            go_wp2_with fail
            go_roundw
            case rel => exact ⟨k + 1, by omega, by go_num, by rw [HL1.out]; rw [h8]; rfl, by rw [HN1.out]; rw [hn0]; rfl, HC⟩
            case measure => simp only [intOf]; omega
      · by_cases h6 : 64 < kn
        · have h7 : (64 : Int) < (kn : Int) := by omega
          have h8 : decide (64 < kn) = true := by simp; omega
          go_wp2_with fail
          go_roundw
          case rel => exact ⟨k + 1, by omega, by go_num, by rw [HL1.out]; rw [h8]; rfl, by rw [HN1.out]; rfl, HC⟩
          case measure => simp only [intOf]; omega
        · have h7 : ¬ (64 : Int) < (kn : Int) := by omega
          have h8 : decide (64 < kn) = false := by simp; omega
          go_wp2_with fail
          go_roundw
          case rel => exact ⟨k + 1, by omega, by go_num, by rw [HL1.out]; rw [h8]; rfl, by rw [HN1.out]; rfl, HC⟩
          case measure => simp only [intOf]; omega
      · by_cases h0 : kn = 0
        · subst h0
          have h9 : (((0 : Nat) : Int) == 0) = true := rfl
          go_wp2_with fail
          go_roundw
          case rel => exact ⟨k + 1, by omega, by go_num, by rw [HL1.out]; rfl, by rw [HN1.out]; rfl, HC⟩
          case measure => simp only [intOf]; omega
        · have h9 : ((kn : Int) == 0) = false := by simp; omega
          have hn0 : (decide (kn = 0)) = false := by simp; omega
          go_wp2_with fail
          go_roundw
          case rel => exact ⟨k + 1, by omega, by go_num, by rw [HL1.out]; rfl, by rw [HN1.out]; rw [hn0]; rfl, HC⟩
          case measure => simp only [intOf]; omega
      · go_wp2_with fail
        go_roundw
        case rel => exact ⟨k + 1, by omega, by go_num, by rw [HL1.out]; rfl, by rw [HN1.out]; rfl, HC⟩
        case measure => simp only [intOf]; omega
    · obtain rfl : k = mk := by omega
      have b1 := HC.out
      clear HC
      have K4n := Lib.hid (K4.out.below b1 K4.out.lt)
      clear K4
      have K4 := K4n
      clear K4n
      have K6n := Lib.hid (K6.out.below b1 K6.out.lt)
      clear K6
      have K6 := K6n
      clear K6n
      have HBn := Lib.hid (HB.out.trans (b1.mono HB.out.size))
      clear HB
      have HB := HBn
      clear HBn
      clear b1
      have hlast : ¬ (k : Int) < (k : Int) := by omega
      have HKB := Lib.hid (keys_b K k)
      obtain ⟨bl, hbl⟩ : ∃ a, lgB K k k = a := ⟨_, rfl⟩
      obtain ⟨bn, hbn⟩ : ∃ a, noB K k = a := ⟨_, rfl⟩
      rw [hbl, hbn]
      rw [hbl, hbn] at HKB
      clear hbl hbn hlt hk
      rcases BE.out with rfl | rfl | rfl
      · cases bl <;> cases bn
        · clear K6
          go_wp2_with (refine wpList_v (op := ⟨some 53, _, _, _, _, _⟩) rfl (.agg (pdC pd0)) (build_pd0R _ _ rfl _) ?_; refine Hid.out ?_)
          refine Lib.hid ?_
          go_wp2_with (refine wpList_st rfl 42 (.tmp 4) (.tmp 53) rfl N1 0 rfl (.agg (pdC pd0)) (pdC pd0) rfl rfl info_pdR (pdC_one _) K4.out (Nat.le_of_ble_eq_true rfl) (C' := pdC pd0) (pd_over _ _) ?_; intro w40 q1; refine Hid.out ?_)
          refine Lib.hid ?_
          have HBn := Lib.hid (HB.out.trans (q1.2.1 _ (by omega)))
          clear HB
          have HB := HBn
          clear HBn
          have K4n : Hid (Blk 42 w40 N1 (pdC pd0)) := Lib.hid q1.1
          clear K4
          have K4 := K4n
          clear K4n q1
          go_wp2_with fail
          exact bodyPost_ret (results_2 rfl _ _ N1 (pdC (pd0)) (.int .i64 2) Tryd.underlying42 rfl info_pdR rfl rfl K4.out) rfl ⟨by rw [HKB.out]; rfl, HB.out⟩
        · clear K6
          go_wp2_with (refine wpList_v (op := ⟨some 53, _, _, _, _, _⟩) rfl (.agg (pdC pd0)) (build_pd0R _ _ rfl _) ?_; refine Hid.out ?_)
          refine Lib.hid ?_
          go_wp2_with (refine wpList_st rfl 42 (.tmp 4) (.tmp 53) rfl N1 0 rfl (.agg (pdC pd0)) (pdC pd0) rfl rfl info_pdR (pdC_one _) K4.out (Nat.le_of_ble_eq_true rfl) (C' := pdC pd0) (pd_over _ _) ?_; intro w40 q1; refine Hid.out ?_)
          refine Lib.hid ?_
          have HBn := Lib.hid (HB.out.trans (q1.2.1 _ (by omega)))
          clear HB
          have HB := HBn
          clear HBn
          have K4n : Hid (Blk 42 w40 N1 (pdC pd0)) := Lib.hid q1.1
          clear K4
          have K4 := K4n
          clear K4n q1
          go_wp2_with fail
          exact bodyPost_ret (results_2 rfl _ _ N1 (pdC (pd0)) (.int .i64 2) Tryd.underlying42 rfl info_pdR rfl rfl K4.out) rfl ⟨by rw [HKB.out]; rfl, HB.out⟩
        · clear K6
          go_wp2_with (refine wpList_v (op := ⟨some 53, _, _, _, _, _⟩) rfl (.agg (pdC pd0)) (build_pd0R _ _ rfl _) ?_; refine Hid.out ?_)
          refine Lib.hid ?_
          go_wp2_with (refine wpList_st rfl 42 (.tmp 4) (.tmp 53) rfl N1 0 rfl (.agg (pdC pd0)) (pdC pd0) rfl rfl info_pdR (pdC_one _) K4.out (Nat.le_of_ble_eq_true rfl) (C' := pdC pd0) (pd_over _ _) ?_; intro w40 q1; refine Hid.out ?_)
          refine Lib.hid ?_
          have HBn := Lib.hid (HB.out.trans (q1.2.1 _ (by omega)))
          clear HB
          have HB := HBn
          clear HBn
          have K4n : Hid (Blk 42 w40 N1 (pdC pd0)) := Lib.hid q1.1
          clear K4
          have K4 := K4n
          clear K4n q1
          go_wp2_with fail
          exact bodyPost_ret (results_2 rfl _ _ N1 (pdC (pd0)) (.int .i64 2) Tryd.underlying42 rfl info_pdR rfl rfl K4.out) rfl ⟨by rw [HKB.out]; rfl, HB.out⟩
        · clear K6
          go_wp2_with (refine wpList_v (op := ⟨some 53, _, _, _, _, _⟩) rfl (.agg (pdC pd0)) (build_pd0R _ _ rfl _) ?_; refine Hid.out ?_)
          refine Lib.hid ?_
          go_wp2_with (refine wpList_st rfl 42 (.tmp 4) (.tmp 53) rfl N1 0 rfl (.agg (pdC pd0)) (pdC pd0) rfl rfl info_pdR (pdC_one _) K4.out (Nat.le_of_ble_eq_true rfl) (C' := pdC pd0) (pd_over _ _) ?_; intro w40 q1; refine Hid.out ?_)
          refine Lib.hid ?_
          have HBn := Lib.hid (HB.out.trans (q1.2.1 _ (by omega)))
          clear HB
          have HB := HBn
          clear HBn
          have K4n : Hid (Blk 42 w40 N1 (pdC pd0)) := Lib.hid q1.1
          clear K4
          have K4 := K4n
          clear K4n q1
          go_wp2_with fail
          exact bodyPost_ret (results_2 rfl _ _ N1 (pdC (pd0)) (.int .i64 2) Tryd.underlying42 rfl info_pdR rfl rfl K4.out) rfl ⟨by rw [HKB.out]; rfl, HB.out⟩
      · cases bl <;> cases bn
        · clear K6
          go_wp2_with (refine wpList_v (op := ⟨some 60, _, _, _, _, _⟩) rfl (.agg (pdC pd0)) (build_pd0R _ _ rfl _) ?_; refine Hid.out ?_)
          refine Lib.hid ?_
          go_wp2_with (refine wpList_st rfl 42 (.tmp 4) (.tmp 60) rfl N1 0 rfl (.agg (pdC pd0)) (pdC pd0) rfl rfl info_pdR (pdC_one _) K4.out (Nat.le_of_ble_eq_true rfl) (C' := pdC pd0) (pd_over _ _) ?_; intro w40 q1; refine Hid.out ?_)
          refine Lib.hid ?_
          have HBn := Lib.hid (HB.out.trans (q1.2.1 _ (by omega)))
          clear HB
          have HB := HBn
          clear HBn
          have K4n : Hid (Blk 42 w40 N1 (pdC pd0)) := Lib.hid q1.1
          clear K4
          have K4 := K4n
          clear K4n q1
          go_wp2_with fail
          exact bodyPost_ret (results_2 rfl _ _ N1 (pdC (pd0)) (.int .i64 3) Tryd.underlying42 rfl info_pdR rfl rfl K4.out) rfl ⟨by rw [HKB.out]; rfl, HB.out⟩
        · clear K6
          go_wp2_with (refine wpList_v (op := ⟨some 60, _, _, _, _, _⟩) rfl (.agg (pdC pd0)) (build_pd0R _ _ rfl _) ?_; refine Hid.out ?_)
          refine Lib.hid ?_
          go_wp2_with (refine wpList_st rfl 42 (.tmp 4) (.tmp 60) rfl N1 0 rfl (.agg (pdC pd0)) (pdC pd0) rfl rfl info_pdR (pdC_one _) K4.out (Nat.le_of_ble_eq_true rfl) (C' := pdC pd0) (pd_over _ _) ?_; intro w40 q1; refine Hid.out ?_)
          refine Lib.hid ?_
          have HBn := Lib.hid (HB.out.trans (q1.2.1 _ (by omega)))
          clear HB
          have HB := HBn
          clear HBn
          have K4n : Hid (Blk 42 w40 N1 (pdC pd0)) := Lib.hid q1.1
          clear K4
          have K4 := K4n
          clear K4n q1
          go_wp2_with fail
          exact bodyPost_ret (results_2 rfl _ _ N1 (pdC (pd0)) (.int .i64 3) Tryd.underlying42 rfl info_pdR rfl rfl K4.out) rfl ⟨by rw [HKB.out]; rfl, HB.out⟩
        · clear K6
          go_wp2_with (refine wpList_v (op := ⟨some 53, _, _, _, _, _⟩) rfl (.agg (pdC pd0)) (build_pd0R _ _ rfl _) ?_; refine Hid.out ?_)
          refine Lib.hid ?_
          go_wp2_with (refine wpList_st rfl 42 (.tmp 4) (.tmp 53) rfl N1 0 rfl (.agg (pdC pd0)) (pdC pd0) rfl rfl info_pdR (pdC_one _) K4.out (Nat.le_of_ble_eq_true rfl) (C' := pdC pd0) (pd_over _ _) ?_; intro w40 q1; refine Hid.out ?_)
          refine Lib.hid ?_
          have HBn := Lib.hid (HB.out.trans (q1.2.1 _ (by omega)))
          clear HB
          have HB := HBn
          clear HBn
          have K4n : Hid (Blk 42 w40 N1 (pdC pd0)) := Lib.hid q1.1
          clear K4
          have K4 := K4n
          clear K4n q1
          go_wp2_with fail
          exact bodyPost_ret (results_2 rfl _ _ N1 (pdC (pd0)) (.int .i64 2) Tryd.underlying42 rfl info_pdR rfl rfl K4.out) rfl ⟨by rw [HKB.out]; rfl, HB.out⟩
        · clear K6
          go_wp2_with (refine wpList_v (op := ⟨some 53, _, _, _, _, _⟩) rfl (.agg (pdC pd0)) (build_pd0R _ _ rfl _) ?_; refine Hid.out ?_)
          refine Lib.hid ?_
          go_wp2_with (refine wpList_st rfl 42 (.tmp 4) (.tmp 53) rfl N1 0 rfl (.agg (pdC pd0)) (pdC pd0) rfl rfl info_pdR (pdC_one _) K4.out (Nat.le_of_ble_eq_true rfl) (C' := pdC pd0) (pd_over _ _) ?_; intro w40 q1; refine Hid.out ?_)
          refine Lib.hid ?_
          have HBn := Lib.hid (HB.out.trans (q1.2.1 _ (by omega)))
          clear HB
          have HB := HBn
          clear HBn
          have K4n : Hid (Blk 42 w40 N1 (pdC pd0)) := Lib.hid q1.1
          clear K4
          have K4 := K4n
          clear K4n q1
          go_wp2_with fail
          exact bodyPost_ret (results_2 rfl _ _ N1 (pdC (pd0)) (.int .i64 2) Tryd.underlying42 rfl info_pdR rfl rfl K4.out) rfl ⟨by rw [HKB.out]; rfl, HB.out⟩
      · cases bl <;> cases bn
        · clear K6
          go_wp2_with (refine wpList_v (op := ⟨some 64, _, _, _, _, _⟩) rfl (.agg (pdC pd0)) (build_pd0R _ _ rfl _) ?_; refine Hid.out ?_)
          refine Lib.hid ?_
          go_wp2_with (refine wpList_st rfl 42 (.tmp 4) (.tmp 64) rfl N1 0 rfl (.agg (pdC pd0)) (pdC pd0) rfl rfl info_pdR (pdC_one _) K4.out (Nat.le_of_ble_eq_true rfl) (C' := pdC pd0) (pd_over _ _) ?_; intro w40 q1; refine Hid.out ?_)
          refine Lib.hid ?_
          have HBn := Lib.hid (HB.out.trans (q1.2.1 _ (by omega)))
          clear HB
          have HB := HBn
          clear HBn
          have K4n : Hid (Blk 42 w40 N1 (pdC pd0)) := Lib.hid q1.1
          clear K4
          have K4 := K4n
          clear K4n q1
          go_wp2_with fail
          exact bodyPost_ret (results_2 rfl _ _ N1 (pdC (pd0)) (.int .i64 8) Tryd.underlying42 rfl info_pdR rfl rfl K4.out) rfl ⟨by rw [HKB.out]; rfl, HB.out⟩
        · clear K6
          go_wp2_with (refine wpList_v (op := ⟨some 60, _, _, _, _, _⟩) rfl (.agg (pdC pd0)) (build_pd0R _ _ rfl _) ?_; refine Hid.out ?_)
          refine Lib.hid ?_
          go_wp2_with (refine wpList_st rfl 42 (.tmp 4) (.tmp 60) rfl N1 0 rfl (.agg (pdC pd0)) (pdC pd0) rfl rfl info_pdR (pdC_one _) K4.out (Nat.le_of_ble_eq_true rfl) (C' := pdC pd0) (pd_over _ _) ?_; intro w40 q1; refine Hid.out ?_)
          refine Lib.hid ?_
          have HBn := Lib.hid (HB.out.trans (q1.2.1 _ (by omega)))
          clear HB
          have HB := HBn
          clear HBn
          have K4n : Hid (Blk 42 w40 N1 (pdC pd0)) := Lib.hid q1.1
          clear K4
          have K4 := K4n
          clear K4n q1
          go_wp2_with fail
          exact bodyPost_ret (results_2 rfl _ _ N1 (pdC (pd0)) (.int .i64 3) Tryd.underlying42 rfl info_pdR rfl rfl K4.out) rfl ⟨by rw [HKB.out]; rfl, HB.out⟩
        · clear K6
          go_wp2_with (refine wpList_v (op := ⟨some 53, _, _, _, _, _⟩) rfl (.agg (pdC pd0)) (build_pd0R _ _ rfl _) ?_; refine Hid.out ?_)
          refine Lib.hid ?_
          go_wp2_with (refine wpList_st rfl 42 (.tmp 4) (.tmp 53) rfl N1 0 rfl (.agg (pdC pd0)) (pdC pd0) rfl rfl info_pdR (pdC_one _) K4.out (Nat.le_of_ble_eq_true rfl) (C' := pdC pd0) (pd_over _ _) ?_; intro w40 q1; refine Hid.out ?_)
          refine Lib.hid ?_
          have HBn := Lib.hid (HB.out.trans (q1.2.1 _ (by omega)))
          clear HB
          have HB := HBn
          clear HBn
          have K4n : Hid (Blk 42 w40 N1 (pdC pd0)) := Lib.hid q1.1
          clear K4
          have K4 := K4n
          clear K4n q1
          go_wp2_with fail
          exact bodyPost_ret (results_2 rfl _ _ N1 (pdC (pd0)) (.int .i64 2) Tryd.underlying42 rfl info_pdR rfl rfl K4.out) rfl ⟨by rw [HKB.out]; rfl, HB.out⟩
        · clear K6
          go_wp2_with (refine wpList_v (op := ⟨some 53, _, _, _, _, _⟩) rfl (.agg (pdC pd0)) (build_pd0R _ _ rfl _) ?_; refine Hid.out ?_)
          refine Lib.hid ?_
          go_wp2_with (refine wpList_st rfl 42 (.tmp 4) (.tmp 53) rfl N1 0 rfl (.agg (pdC pd0)) (pdC pd0) rfl rfl info_pdR (pdC_one _) K4.out (Nat.le_of_ble_eq_true rfl) (C' := pdC pd0) (pd_over _ _) ?_; intro w40 q1; refine Hid.out ?_)
          refine Lib.hid ?_
          have HBn := Lib.hid (HB.out.trans (q1.2.1 _ (by omega)))
          clear HB
          have HB := HBn
          clear HBn
          have K4n : Hid (Blk 42 w40 N1 (pdC pd0)) := Lib.hid q1.1
          clear K4
          have K4 := K4n
          clear K4n q1
          go_wp2_with fail
          exact bodyPost_ret (results_2 rfl _ _ N1 (pdC (pd0)) (.int .i64 2) Tryd.underlying42 rfl info_pdR rfl rfl K4.out) rfl ⟨by rw [HKB.out]; rfl, HB.out⟩
end Go.Proofs.YtccoicjmmeoggaaDoor

/- The document's DocOpen: what it answers, for all bytes and keys. Each theorem states its conditions. -/
namespace Go.Proofs.YtccoicjmmeoggaaDoor
open Go.RowKit
set_option linter.unusedVariables false
set_option linter.unusedSimpArgs false

/-- the signature, told by the count of the values of its type -/
theorem at_sig {L : Nat → It} {l : Nat} (h1 : cnt L 10 (l + 1) = 1) (h2 : (L l).ty = 10) : AtSig L (l + 1) l := by
  have h3 : cnt L 10 l = 0 := by simp only [cnt, h2, if_pos] at h1; omega
  refine ⟨Nat.lt_succ_self l, h2, fun j hj he => ?_⟩
  have : ∀ m, j < m → 0 < cnt L 10 m := by
    intro m
    induction m with
    | zero => intro h; omega
    | succ m ih =>
      intro h
      simp only [cnt]
      split
      · omega
      · rename_i hne
        exact ih (by by_cases e : j = m; (subst e; exact absurd he hne); omega)
  have := this l hj
  omega
theorem sig_cnt {L : Nat → It} {l : Nat} (h : AtSig L (l + 1) l) : cnt L 10 (l + 1) = 1 ∧ (L l).ty = 10 := by
  refine ⟨?_, h.2.1⟩
  have := cnt_no (L := L) (m := l) h.2.2
  simp only [cnt, h.2.1, if_pos]
  omega
theorem num2o (z : Nat → Int) : numZ z 1 2 = z 1 * 256 + z 2 := by simp [numZ]
set_option maxHeartbeats 80000000 in
set_option maxRecDepth 100000 in
theorem docOpen_yes (B : Option Addr) (n c : Nat) (z : Nat → Int) (A : Option Addr) (mk ck : Nat) (K : Nat → It) (q m : Nat) (w : World) (hq : cls (z 4) = q) (hgood : GoodZ z n m) (hn2 : n ≤ 1492) (hrd : ∀ w, Rd w B n z → Calls Tryd.prog 48 #[.slice B n c] w (RdOk w q z m)) (hB : Rd w B n z) (hBn : B = none → n = 0 ∧ c = 0) (hK : RdK w A mk K) (hmk : mk ≤ 140737488351232) :
    Calls Tryd.prog 23 #[.slice B n c, .slice A mk ck] w (OpnP q m n z K mk w) := by
  have HRD := Lib.hid hrd
  have HBB := Lib.hid hB
  have HBN := Lib.hid hBn
  have HN2 := Lib.hid hn2
  have HK := Lib.hid hK
  have HG := Lib.hid hgood
  have HQ := Lib.hid hq
  have HMK := Lib.hid hmk
  clear hrd hB hBn hK hgood hq hn2
  go_enter Tryd.func23, Tryd.ntmps23
  have HB := Lib.hid (Below.refl w.heap.size w)
  obtain ⟨N1, hN1⟩ : ∃ N, w.heap.size = N := ⟨_, rfl⟩
  have HN1 := Lib.hid hN1
  clear hN1
  go_wp2_with (refine wpList_new (op := ⟨some 4, _, _, _, _, _⟩) rfl 42 rfl (pdC pd0) zero_pdR N1 HN1.out ?_; intro w1 k1 b1 s1; refine Hid.out ?_)
  refine Lib.hid ?_
  have K4 := Lib.hid k1
  clear k1
  have le_HB_N1 : w.heap.size ≤ N1 := by rw [← HN1.out]; exact HB.out.size
  have HBn := Lib.hid (HB.out.trans (b1.mono HB.out.size))
  clear HB
  have HB := HBn
  clear HBn
  clear b1 HN1
  go_wp2_with fail
  refine (HRD.out w1 (HBB.out.below HB.out rfl)).mono ?_
  rintro e w10 ⟨A7, c7, L, rfl, ho, hI, hA7, hc71, hc72, b1⟩
  have HO : Hid (OwnT w10 w.heap.size (.slice A7 m c7) m L) := Lib.hid (ho.le HB.out.size)
  have HI := Lib.hid hI
  have HA7 := Lib.hid (And.intro hA7 (And.intro hc71 hc72))
  clear ho hI hA7 hc71 hc72
  have K4n := Lib.hid (K4.out.below b1 K4.out.lt)
  clear K4
  have K4 := K4n
  clear K4n
  have HBn := Lib.hid (HB.out.trans (b1.mono HB.out.size))
  clear HB
  have HB := HBn
  clear HBn
  clear b1
  obtain ⟨p, hp⟩ : ∃ p, withT (rdP q z) A7 m c7 = p := ⟨_, rfl⟩
  have HP := Lib.hid hp
  have hpA : p.A = A7 := by rw [← hp]; rfl
  have hpm : p.m = m := by rw [← hp]; rfl
  have hpc : p.c = c7 := by rw [← hp]; rfl
  rw [hp]
  have HPA := Lib.hid (And.intro hpA (And.intro hpm hpc))
  clear hp hpA hpm hpc
  obtain ⟨N11, hN11⟩ : ∃ N, w10.heap.size = N := ⟨_, rfl⟩
  have HN11 := Lib.hid hN11
  clear hN11
  go_wp2_with (refine wpList_new (op := ⟨some 6, _, _, _, _, _⟩) rfl 42 rfl (pdC pd0) zero_pdR N11 HN11.out ?_; intro w11 k1 b1 s1; refine Hid.out ?_)
  refine Lib.hid ?_
  have K6 := Lib.hid k1
  have HO3 := Lib.hid (OwnT.below HO.out b1)
  clear k1
  have lt_N1_N11 : N1 < N11 := by rw [← HN11.out]; exact K4.out.lt
  have le_HB_N11 : w.heap.size ≤ N11 := by rw [← HN11.out]; exact HB.out.size
  have K4n := Lib.hid (K4.out.below b1 K4.out.lt)
  clear K4
  have K4 := K4n
  clear K4n
  have HBn := Lib.hid (HB.out.trans (b1.mono HB.out.size))
  clear HB
  have HB := HBn
  clear HBn
  clear b1 HN11
  clear HO
  have HO := HO3
  clear HO3
  go_wp2_with (refine wpList_st rfl 42 (.tmp 6) (.tmp 21) rfl N11 0 rfl (.agg (pdC p)) (pdC p) rfl rfl info_pdR (pdC_one _) K6.out (Nat.le_of_ble_eq_true rfl) (C' := pdC p) (pd_over _ _) ?_; intro w20 q1; refine Hid.out ?_)
  refine Lib.hid ?_
  have HO3 := Lib.hid (OwnT.farR HO.out K6.out q1)
  have K4n := Lib.hid (K4.out.far q1 (by omega))
  clear K4
  have K4 := K4n
  clear K4n
  have HBn := Lib.hid (HB.out.trans (q1.2.1 _ (by omega)))
  clear HB
  have HB := HBn
  clear HBn
  have K6n : Hid (Blk 42 w20 N11 (pdC p)) := Lib.hid q1.1
  clear K6
  have K6 := K6n
  clear K6n q1
  clear HO
  have HO := HO3
  clear HO3
  go_wp2_with (refine wpList_v (op := ⟨some 25, _, _, _, _, _⟩) rfl (.bool (lgB K mk 0)) (gtr_run _ _ _ _ _ _ rfl mk 8 rfl rfl _) ?_; refine Hid.out ?_)
  refine Lib.hid ?_
  go_wp2_with fail
  go_loopw [8, 9, 28] (fun a b i wr => ∃ k : Nat, k ≤ mk ∧ i = .int .i64 (k : Int) ∧ a = .bool (lgB K mk k) ∧ b = .bool (noB K k) ∧ Hid (Below w20.heap.size w20 wr)) (fun _ _ i _ => mk - (intOf i).toNat)
  case atStart => exact ⟨0, by omega, rfl, rfl, rfl, Lib.hid (Below.refl _ _)⟩
  case round => as_aux_lemma =>
    obtain ⟨k, hk, rfl, rfl, rfl, HC⟩ := hrel
    by_cases hlt : k < mk
    · have hki : (k : Int) < (mk : Int) := by omega
      obtain ⟨b, off, rfl, hr⟩ := ((HK.out.below HB.out).below HC.out).1.row (by omega)
      have hr2 := Lib.hid (rdK_rng hr k hlt)
      clear hr
      obtain ⟨kn, hkn⟩ : ∃ a, (K k).n = a := ⟨_, rfl⟩
      obtain ⟨bl, hbl⟩ : ∃ a, lgB K mk k = a := ⟨_, rfl⟩
      obtain ⟨bn, hbn⟩ : ∃ a, noB K k = a := ⟨_, rfl⟩
      rw [hbl, hbn]
      have HL1 : Hid (lgB K mk (k + 1) = (bl || decide (64 < kn))) := Lib.hid (by simp only [lgB]; rw [hbl, hkn])
      have HN1 : Hid (noB K (k + 1) = (bn || decide (kn = 0))) := Lib.hid (by simp only [noB]; rw [hbn, hkn])
      have HKN := Lib.hid hkn
      clear hkn hbl hbn
      go_wp2_with (refine wpList_ld (op := ⟨some 31, _, _, _, _, _⟩) (by rfl) 45 (.tmp 30) rfl b (off + k * 2) rfl (kC (K k)) _ hr2.out Tryd.underlying45 rfl info_key ?_; refine Hid.out ?_)
      refine Lib.hid ?_
      clear hr2
      obtain ⟨N101, hN101⟩ : ∃ N, wr.heap.size = N := ⟨_, rfl⟩
      have HN101 := Lib.hid hN101
      clear hN101
      go_wp2_with (refine wpList_new (op := ⟨some 11, _, _, _, _, _⟩) rfl 45 rfl (kC ⟨0, none, 0, 0, nou⟩) zero_key2 N101 HN101.out ?_; intro w101 k1 b1 s1; refine Hid.out ?_)
      refine Lib.hid ?_
      have K11 := Lib.hid k1
      clear k1
      have le_HC_N101 : w20.heap.size ≤ N101 := by rw [← HN101.out]; exact HC.out.size
      have HCn := Lib.hid (HC.out.trans (b1.mono HC.out.size))
      clear HC
      have HC := HCn
      clear HCn
      clear b1 HN101
      go_wp2_with (refine wpList_st rfl 45 (.tmp 11) (.tmp 31) rfl N101 0 rfl (.agg (kC (K k))) (kC (K k)) rfl rfl info_key (kC_one _) K11.out (Nat.le_of_ble_eq_true rfl) (C' := kC (K k)) (by rfl) ?_; intro w102 q1; refine Hid.out ?_)
      refine Lib.hid ?_
      have HCn := Lib.hid (HC.out.trans (q1.2.1 _ (by omega)))
      clear HC
      have HC := HCn
      clear HCn
      have K11n : Hid (Blk 45 w102 N101 (kC (K k))) := Lib.hid q1.1
      clear K11
      have K11 := K11n
      clear K11n q1
      have c11 : w102.cell? ⟨N101, 1, none⟩ = some (.slice (K k).A kn (K k).c) := (K11.out.cell 1).trans (by rw [← HKN.out]; rfl)
      clear K11 HKN
      cases bl <;> cases bn
      · by_cases h6 : 64 < kn
        · have h7 : (64 : Int) < (kn : Int) := by omega
          have h8 : decide (64 < kn) = true := by simp; omega
          by_cases h0 : kn = 0
          · omega
          · have h9 : ((kn : Int) == 0) = false := by simp; omega
            have hn0 : (decide (kn = 0)) = false := by simp; omega
            go_wp2_with fail
            go_roundw
            case rel => exact ⟨k + 1, by omega, by go_num, by rw [HL1.out]; rw [h8]; rfl, by rw [HN1.out]; rw [hn0]; rfl, HC⟩
            case measure => simp only [intOf]; omega
        · have h7 : ¬ (64 : Int) < (kn : Int) := by omega
          have h8 : decide (64 < kn) = false := by simp; omega
          by_cases h0 : kn = 0
          · subst h0
            have h9 : (((0 : Nat) : Int) == 0) = true := rfl
            go_wp2_with fail
            go_roundw
            case rel => exact ⟨k + 1, by omega, by go_num, by rw [HL1.out]; rw [h8]; rfl, by rw [HN1.out]; rfl, HC⟩
            case measure => simp only [intOf]; omega
          · have h9 : ((kn : Int) == 0) = false := by simp; omega
            have hn0 : (decide (kn = 0)) = false := by simp; omega
            go_wp2_with fail
            go_roundw
            case rel => exact ⟨k + 1, by omega, by go_num, by rw [HL1.out]; rw [h8]; rfl, by rw [HN1.out]; rw [hn0]; rfl, HC⟩
            case measure => simp only [intOf]; omega
      · by_cases h6 : 64 < kn
        · have h7 : (64 : Int) < (kn : Int) := by omega
          have h8 : decide (64 < kn) = true := by simp; omega
          go_wp2_with fail
          go_roundw
          case rel => exact ⟨k + 1, by omega, by go_num, by rw [HL1.out]; rw [h8]; rfl, by rw [HN1.out]; rfl, HC⟩
          case measure => simp only [intOf]; omega
        · have h7 : ¬ (64 : Int) < (kn : Int) := by omega
          have h8 : decide (64 < kn) = false := by simp; omega
          go_wp2_with fail
          go_roundw
          case rel => exact ⟨k + 1, by omega, by go_num, by rw [HL1.out]; rw [h8]; rfl, by rw [HN1.out]; rfl, HC⟩
          case measure => simp only [intOf]; omega
      · by_cases h0 : kn = 0
        · subst h0
          have h9 : (((0 : Nat) : Int) == 0) = true := rfl
          go_wp2_with fail
          go_roundw
          case rel => exact ⟨k + 1, by omega, by go_num, by rw [HL1.out]; rfl, by rw [HN1.out]; rfl, HC⟩
          case measure => simp only [intOf]; omega
        · have h9 : ((kn : Int) == 0) = false := by simp; omega
          have hn0 : (decide (kn = 0)) = false := by simp; omega
          go_wp2_with fail
          go_roundw
          case rel => exact ⟨k + 1, by omega, by go_num, by rw [HL1.out]; rfl, by rw [HN1.out]; rw [hn0]; rfl, HC⟩
          case measure => simp only [intOf]; omega
      · go_wp2_with fail
        go_roundw
        case rel => exact ⟨k + 1, by omega, by go_num, by rw [HL1.out]; rfl, by rw [HN1.out]; rfl, HC⟩
        case measure => simp only [intOf]; omega
    · obtain rfl : k = mk := by omega
      have b1 := HC.out
      have HO3 := Lib.hid (OwnT.below HO.out b1)
      clear HC
      have K4n := Lib.hid (K4.out.below b1 K4.out.lt)
      clear K4
      have K4 := K4n
      clear K4n
      have K6n := Lib.hid (K6.out.below b1 K6.out.lt)
      clear K6
      have K6 := K6n
      clear K6n
      have HBn := Lib.hid (HB.out.trans (b1.mono HB.out.size))
      clear HB
      have HB := HBn
      clear HBn
      clear b1
      clear HO
      have HO := HO3
      clear HO3
      have hlast : ¬ (k : Int) < (k : Int) := by omega
      have HKB := Lib.hid (keys_b K k)
      obtain ⟨bl, hbl⟩ : ∃ a, lgB K k k = a := ⟨_, rfl⟩
      obtain ⟨bn, hbn⟩ : ∃ a, noB K k = a := ⟨_, rfl⟩
      rw [hbl, hbn]
      rw [hbl, hbn] at HKB
      clear hbl hbn hlt hk
      cases bl
      · cases bn
        · have HX : Hid (keysE K k = 0) := Lib.hid HKB.out
          clear HKB
          obtain ⟨hk8, hks⟩ := keysE_zero HX.out
          have HKS := Lib.hid hks
          clear hks
          by_cases hk0 : k = 0
          · subst hk0
            go_wp2_with (refine wpList_ld (op := ⟨some 70, _, _, _, _, _⟩) (by rfl) 42 (.tmp 6) rfl N11 0 rfl (pdC p) _ K6.out.all Tryd.underlying42 rfl info_pdR ?_; refine Hid.out ?_)
            refine Lib.hid ?_
            go_wp2_with (refine wpList_st rfl 42 (.tmp 4) (.tmp 70) rfl N1 0 rfl (.agg (pdC p)) (pdC p) rfl rfl info_pdR (pdC_one _) K4.out (Nat.le_of_ble_eq_true rfl) (C' := pdC p) (pd_over _ _) ?_; intro w40 q1; refine Hid.out ?_)
            refine Lib.hid ?_
            have HO3 := Lib.hid (OwnT.farR HO.out K4.out q1)
            have K6n := Lib.hid (K6.out.far q1 (by omega))
            clear K6
            have K6 := K6n
            clear K6n
            have HBn := Lib.hid (HB.out.trans (q1.2.1 _ (by omega)))
            clear HB
            have HB := HBn
            clear HBn
            have K4n : Hid (Blk 42 w40 N1 (pdC p)) := Lib.hid q1.1
            clear K4
            have K4 := K4n
            clear K4n q1
            clear HO
            have HO := HO3
            clear HO3
            go_wp2_with fail
            exact bodyPost_ret (results_2 rfl _ _ N1 (pdC (p)) (.int .i64 0) Tryd.underlying42 rfl info_pdR rfl rfl K4.out) rfl (.inr (.inl ⟨HX.out, rfl, ⟨A7, c7, L, by rw [HP.out], HO.out, HI.out, HA7.out.1, HA7.out.2.1, HA7.out.2.2, HB.out⟩⟩))
          · have hkb : ((k : Int) == 0) = false := by simp; omega
            have hkp : 0 < k := by omega
            have HKP := Lib.hid hkp
            clear hk0
            have cp : wr.cell? ⟨N11, 46, none⟩ = some (.slice A7 m c7) := (K6.out.cell 46).trans (by rw [pd_46, HPA.out.1, HPA.out.2.1, HPA.out.2.2])
            have hRT : RdT wr A7 m L := by obtain ⟨A8, c8, e8, _, _, _, h8⟩ := HO.out.shape; injection e8 with e8 _ _; rw [e8]; exact h8
            have hps : sz L m + hdN q = n ∧ 17 ≤ hdN q := good_sz HG.out HQ.out HI.out
            have hm9 : m ≤ 1000 := by have := sz_2 L m; have := HN2.out; omega
            have HPS := Lib.hid hps
            clear hps
            have HRT := Lib.hid hRT
            clear hRT
            go_wp2_with fail
            refine (refof_any A7 m c7 10 L wr HRT.out (by omega)).mono ?_
            rintro e w30 ⟨v9, rfl, hv9, b1⟩
            have hv8 : ∃ A9 c9, v9 = .slice A9 (cnt L 10 m) c9 := by rcases hv9.2 with ⟨e1, e2⟩ | ⟨g, cap, cur, e1, _⟩; exact ⟨none, 0, by rw [e1, e2]⟩; exact ⟨_, _, e1⟩
            obtain ⟨A9, c9, rfl⟩ := hv8
            clear hv9 cp HRT
            have HO3 := Lib.hid (OwnT.below HO.out b1)
            clear HO
            have HO := HO3
            clear HO3
            have K4n := Lib.hid (K4.out.below b1 K4.out.lt)
            clear K4
            have K4 := K4n
            clear K4n
            have K6n := Lib.hid (K6.out.below b1 K6.out.lt)
            clear K6
            have K6 := K6n
            clear K6n
            have HBn := Lib.hid (HB.out.trans (b1.mono HB.out.size))
            clear HB
            have HB := HBn
            clear HBn
            clear b1
            have cp : w30.cell? ⟨N11, 46, none⟩ = some (.slice A7 m c7) := (K6.out.cell 46).trans (by rw [pd_46, HPA.out.1, HPA.out.2.1, HPA.out.2.2])
            obtain ⟨nc, hnc⟩ : ∃ a, cnt L 10 m = a := ⟨_, rfl⟩
            rw [hnc]
            have HNC := Lib.hid hnc
            clear hnc
            have HSI : Hid (Signed (itL q z) m (z 4) z n K k ↔ Signed L m (z 4) z n K k) := Lib.hid (signed_al (itL_al HI.out))
            by_cases hn1 : nc = 1
            · subst hn1
              have hn1b : (((1 : Nat) : Int) != 1) = false := rfl
              obtain ⟨l, hl⟩ : ∃ l, m = l + 1 := ⟨m - 1, by have := cnt_le L 10 m; have := HNC.out; omega⟩
              have HL := Lib.hid hl
              have hml : (m : Int) - 1 = (l : Int) := by omega
              have hm1 : m - 1 = l := by omega
              have HM1 := Lib.hid hm1
              clear hm1
              have hlm9 : l < m := by omega
              clear hl
              obtain ⟨A8, c8, e8, h81, h82, h83, h84⟩ := HO.out.shape
              injection e8 with e81 e82 e83
              subst e81 e83
              obtain ⟨b7, o7, rfl, hrow⟩ := h84.row (by omega)
              obtain ⟨ct0, ct1, hit⟩ := hrow.2 l hlm9
              have HOV := Lib.hid (HO.out.2 l hlm9)
              obtain ⟨vt, hvt⟩ : ∃ v, (L l).ty = v := ⟨_, rfl⟩
              obtain ⟨vA, hvA⟩ : ∃ v, (L l).A = v := ⟨_, rfl⟩
              obtain ⟨vn, hvn⟩ : ∃ v, (L l).n = v := ⟨_, rfl⟩
              obtain ⟨vc, hvc⟩ : ∃ v, (L l).c = v := ⟨_, rfl⟩
              obtain ⟨vz, hvz⟩ : ∃ v, (L l).z = v := ⟨_, rfl⟩
              rw [hvt] at ct0
              rw [hvA, hvn, hvc] at ct1
              have HRV : Hid (Rd w30 vA vn vz) := Lib.hid (by rw [← hvA, ← hvn, ← hvz]; exact hit.2.1)
              have HCV : Hid (vn ≤ vc ∧ vc ≤ maxLen) := Lib.hid (by rw [← hvn, ← hvc]; exact ownV_caps HOV.out)
              have HSG : Hid (∀ r, r = Signed L m (z 4) z n K k → r = (AtSig L m l ∧ vn = 35 ∧ vz 0 = 3 ∧ ∃ f, FstKey K (numZ vz 1 2).toNat k f ∧ ∀ j, j < 32 → vz (3 + j) = hmacZ (K f).z (K f).n (blkZ (z 4 = 18 ∨ z 4 = 20) z n) n j)) := Lib.hid (fun r h => by rw [h]; unfold Signed; rw [HM1.out, ← hvn, ← hvz]; exact propext ⟨fun h => h.2, fun h => ⟨by omega, h⟩⟩)
              have H54 : Hid (vn = 35 → 54 ≤ n) := Lib.hid (fun h1 => by rw [← hvn] at h1; have := sz_last (L := L) (m := m) (by omega); rw [HM1.out] at this; have := HPS.out; omega)
              have HVT := Lib.hid hvt
              have HVZ := Lib.hid hvz
              have hc7 : c7 ≤ 9223372036854775807 := h82
              have hlm : (l : Int) < (m : Int) := by omega
              have hl0 : ¬ ((l : Int) < 0) := by omega
              clear hit hrow h81 h82 h83 h84 hvA hvn hvc hvz hvt e82 HOV
              have hsub : ∀ (o : Oper) (e : Operand → Value) (x y : Operand) (t u : TypeId) (ho : o.op = .binOp .sub t x y u) (h0 : e x = .int .i64 (m : Int)) (h1 : e y = .int .i64 1) (W : World), (execOp e o).run Tryd.prog W = .ok (.value (.int .i64 (l : Int))) W := fun o e x y t u ho h0 h1 W => run_m1 o e x y t u ho m l h0 h1 HL.out (by omega) W
              have HSUB := Lib.hid hsub
              clear hsub
              by_cases ht : vt = 10
              · subst ht
                have htb : ((10 : Int) != 10) = false := rfl
                have HAT : Hid (AtSig L m l) := Lib.hid (by rw [HL.out]; exact at_sig (by rw [← HL.out]; exact HNC.out) HVT.out)
                by_cases h35 : vn = 35
                · subst h35
                  have h35b : (((35 : Nat) : Int) != 35) = false := rfl
                  have HN54 : Hid (54 ≤ n) := Lib.hid (H54.out rfl)
                  clear H54
                  obtain ⟨bv, ov, rfl, hrv⟩ := HRV.out.row (by omega)
                  have KV : Hid (Row8 w30 bv ov 35 vz) := Lib.hid hrv
                  clear hrv HRV
                  have hvc1 := HCV.out.1
                  have hvc2 : vc ≤ 9223372036854775807 := HCV.out.2
                  obtain ⟨num, hnum⟩ : ∃ x, (numZ vz 1 2).toNat = x := ⟨_, rfl⟩
                  have hnz : vz 1 * 256 + vz 2 = (num : Int) := by have := numZ_nn vz 1 2 KV.out.2.2; rw [← num2o]; omega
                  rw [hnum] at HSG
                  have HNZ := Lib.hid hnz
                  clear hnum hnz
                  go_wp2_with fail
                  go_loopw [110] (fun t wr => ∃ j : Nat, j ≤ k ∧ t = .int .i64 (j : Int) ∧ Hid (NoKey K num j) ∧ Hid (Below w30.heap.size w30 wr)) (fun t _ => k - (intOf t).toNat)
                  case atStart => exact ⟨0, by omega, rfl, Lib.hid (fun j hj => absurd hj (Nat.not_lt_zero _)), Lib.hid (Below.refl _ _)⟩
                  case round => as_aux_lemma =>
                    clear ct0 ct1 cp
                    obtain ⟨j, hj, rfl, HNK, HC⟩ := hrel
                    have K4n := Lib.hid (K4.out.below HC.out K4.out.lt)
                    clear K4
                    have K4 := K4n
                    clear K4n
                    have K6n := Lib.hid (K6.out.below HC.out K6.out.lt)
                    clear K6
                    have K6 := K6n
                    clear K6n
                    have HBn := Lib.hid (HB.out.trans (HC.out.mono HB.out.size))
                    clear HB
                    have HB := HBn
                    clear HBn
                    have HOn := Lib.hid (OwnT.below HO.out HC.out)
                    clear HO
                    have HO := HOn
                    clear HOn
                    have KVn := Lib.hid (KV.out.below' HC.out)
                    clear KV
                    have KV := KVn
                    clear KVn
                    by_cases hlt : j < k
                    · have hki : (j : Int) < (k : Int) := by omega
                      obtain ⟨bk, ok, hAk, hr⟩ := (HK.out.below HB.out).1.row (by omega)
                      have hr2 := Lib.hid (rdK_rng hr j hlt)
                      have HKE := Lib.hid ((HK.out.below HB.out).2 j hlt)
                      rw [hAk]
                      clear hr
                      go_wp2_with (refine wpList_ld (op := ⟨some 113, _, _, _, _, _⟩) (by rfl) 45 (.tmp 112) rfl bk (ok + j * 2) rfl (kC (K j)) _ hr2.out Tryd.underlying45 rfl info_key ?_; refine Hid.out ?_)
                      refine Lib.hid ?_
                      clear hr2
                      obtain ⟨N61, hN61⟩ : ∃ N, wr.heap.size = N := ⟨_, rfl⟩
                      have HN61 := Lib.hid hN61
                      clear hN61
                      go_wp2_with (refine wpList_new (op := ⟨some 15, _, _, _, _, _⟩) rfl 45 rfl (kC ⟨0, none, 0, 0, nou⟩) zero_key2 N61 HN61.out ?_; intro w61 k1 b1 s1; refine Hid.out ?_)
                      refine Lib.hid ?_
                      have K15 := Lib.hid k1
                      have hNK15 := Lib.hid (Nat.le_of_eq HN61.out)
                      have hbx := Lib.hid b1
                      clear k1
                      have lt_N1_N61 : N1 < N61 := by rw [← HN61.out]; exact K4.out.lt
                      have lt_N11_N61 : N11 < N61 := by rw [← HN61.out]; exact K6.out.lt
                      have lt_bv_N61 : bv < N61 := by rw [← HN61.out]; exact KV.out.lt
                      have le_HB_N61 : w.heap.size ≤ N61 := by rw [← HN61.out]; exact HB.out.size
                      have le_HC_N61 : w30.heap.size ≤ N61 := by rw [← HN61.out]; exact HC.out.size
                      have K4n := Lib.hid (K4.out.below b1 K4.out.lt)
                      clear K4
                      have K4 := K4n
                      clear K4n
                      have K6n := Lib.hid (K6.out.below b1 K6.out.lt)
                      clear K6
                      have K6 := K6n
                      clear K6n
                      have KVn := Lib.hid (KV.out.below b1 KV.out.lt)
                      clear KV
                      have KV := KVn
                      clear KVn
                      have HBn := Lib.hid (HB.out.trans (b1.mono HB.out.size))
                      clear HB
                      have HB := HBn
                      clear HBn
                      have HCn := Lib.hid (HC.out.trans (b1.mono HC.out.size))
                      clear HC
                      have HC := HCn
                      clear HCn
                      clear b1 HN61
                      go_wp2_with (refine wpList_st rfl 45 (.tmp 15) (.tmp 113) rfl N61 0 rfl (.agg (kC (K j))) (kC (K j)) rfl rfl info_key (kC_one _) K15.out (Nat.le_of_ble_eq_true rfl) (C' := kC (K j)) (by rfl) ?_; intro w60 q1; refine Hid.out ?_)
                      refine Lib.hid ?_
                      have hby := Lib.hid (hbx.out.trans (q1.2.1 _ hNK15.out))
                      have K4n := Lib.hid (K4.out.far q1 (by omega))
                      clear K4
                      have K4 := K4n
                      clear K4n
                      have K6n := Lib.hid (K6.out.far q1 (by omega))
                      clear K6
                      have K6 := K6n
                      clear K6n
                      have KVn := Lib.hid (KV.out.far q1 (by omega))
                      clear KV
                      have KV := KVn
                      clear KVn
                      have HBn := Lib.hid (HB.out.trans (q1.2.1 _ (by omega)))
                      clear HB
                      have HB := HBn
                      clear HBn
                      have HCn := Lib.hid (HC.out.trans (q1.2.1 _ (by omega)))
                      clear HC
                      have HC := HCn
                      clear HCn
                      have K15n : Hid (Blk 45 w60 N61 (kC (K j))) := Lib.hid q1.1
                      clear K15
                      have K15 := K15n
                      clear K15n q1
                      have HOn : Hid (OwnT w60 w.heap.size (.slice (some ⟨b7, o7, none⟩) m c7) m L) := Lib.hid (HO.out.below hby.out)
                      clear HO
                      have HO := HOn
                      clear HOn
                      clear hby hbx hNK15
                      obtain ⟨id, hid⟩ : ∃ id : Nat, (K j).ty = (id : Int) := ⟨(K j).ty.toNat, by have := HKE.out.1; omega⟩
                      have hid2 : (0 : Int) ≤ (id : Int) ∧ (id : Int) ≤ 65535 := by have := HKE.out.1; omega
                      have HID := Lib.hid hid
                      clear hid
                      have c15 : w60.cell? ⟨N61, 0, none⟩ = some (.int .u16 (id : Int)) := (K15.out.cell 0).trans (by show some (Value.int .u16 (K j).ty) = _; rw [HID.out])
                      obtain ⟨v1, hv1⟩ : ∃ v, vz 1 = v := ⟨_, rfl⟩
                      obtain ⟨v2, hv2⟩ : ∃ v, vz 2 = v := ⟨_, rfl⟩
                      have cv1 : w60.cell? ⟨bv, ov + 1, none⟩ = some (.int .u8 v1) := by rw [← hv1]; exact KV.out.2.1 1 (by omega)
                      have cv2 : w60.cell? ⟨bv, ov + 2, none⟩ = some (.int .u8 v2) := by rw [← hv2]; exact KV.out.2.1 2 (by omega)
                      have hv10 : 0 ≤ v1 ∧ v1 ≤ 255 := by rw [← hv1]; exact KV.out.2.2 1
                      have hv20 : 0 ≤ v2 ∧ v2 ≤ 255 := by rw [← hv2]; exact KV.out.2.2 2
                      have h12 : v1 * 256 + v2 = (num : Int) := by rw [← hv1, ← hv2]; exact HNZ.out
                      clear hv1 hv2
                      have hvi1 : (1 : Int) < 35 := by decide
                      have hvi2 : (2 : Int) < 35 := by decide
                      go_wp2_with fail
                      go_quiet (fail)
                      have b1 := qbel w60 nq
                      generalize hW61 : w60.drewN nq = w61 at b1 ⊢
                      clear hW61
                      have K4n := Lib.hid (K4.out.below b1 K4.out.lt)
                      clear K4
                      have K4 := K4n
                      clear K4n
                      have K6n := Lib.hid (K6.out.below b1 K6.out.lt)
                      clear K6
                      have K6 := K6n
                      clear K6n
                      have KVn := Lib.hid (KV.out.below b1 KV.out.lt)
                      clear KV
                      have KV := KVn
                      clear KVn
                      have K15n := Lib.hid (K15.out.below b1 K15.out.lt)
                      clear K15
                      have K15 := K15n
                      clear K15n
                      have HOn := Lib.hid (HO.out.below b1)
                      clear HO
                      have HO := HOn
                      clear HOn
                      have HBn := Lib.hid (HB.out.trans (b1.mono HB.out.size))
                      clear HB
                      have HB := HBn
                      clear HBn
                      have HCn := Lib.hid (HC.out.trans (b1.mono HC.out.size))
                      clear HC
                      have HC := HCn
                      clear HCn
                      clear b1 c15 cv1 cv2 hv10 hv20
                      by_cases hid3 : id = num
                      · subst hid3
                        have hne : ((id : Int) != (id : Int)) = false := by simp
                        have HFK : Hid (FstKey K id k j) := Lib.hid ⟨hlt, HID.out, HNK.out⟩
                        obtain ⟨M, hM⟩ : ∃ M, hmacZ (K j).z (K j).n (blkZ (z 4 = 18 ∨ z 4 = 20) z n) n = M := ⟨_, rfl⟩
                        have HSJ : Hid (∀ r, r = Signed L m (z 4) z n K k → r = (vz 0 = 3 ∧ ∀ j, j < 32 → vz (3 + j) = M j)) := Lib.hid (fun r h => by rw [HSG.out r h, ← hM]; exact propext ⟨fun h => ⟨h.2.2.1, by obtain ⟨f, h1, h2⟩ := h.2.2.2; rw [fst_one HFK.out h1]; exact h2⟩, fun h => by first | exact ⟨HAT.out, rfl, h.1, j, HFK.out, h.2⟩ | exact ⟨HAT.out, trivial, h.1, j, HFK.out, h.2⟩⟩)
                        have HMM := Lib.hid hM
                        have HMB : Hid (∀ j, 0 ≤ M j ∧ M j ≤ 255) := Lib.hid (by rw [← hM]; exact dg_bd _)
                        clear hM
                        go_wp2_with fail
                        go_cut [16] (fun s1 wc => ∃ N, s1 = .pointer (some ⟨N, 0, none⟩) ∧ w61.heap.size ≤ N ∧ Hid (Blk 26 wc N (bytC 32 M)) ∧ Hid (Below w61.heap.size w61 wc))
                        case first => as_aux_lemma =>
                          have HR := Lib.hid (Below.refl w61.heap.size w61)
                          refine wp_region_held_drew (S := fun w' => Blk 45 w' N61 (kC (K j)) ∧ Below w61.heap.size w61 w') (by kernel_rfl) ⟨K15.out, HR.out.drew⟩ (fun hS => ?_)
                          generalize hW71 : w61.drew = W71 at hS  ⊢
                          clear hW71
                          clear K15
                          clear HR
                          have K15 := Lib.hid hS.1
                          have HR := Lib.hid hS.2
                          refine takeY (i := 0) (some 128) (v := .pointer (some ⟨N61, 1, none⟩)) rfl rfl (by kernel_rfl) (by kernel_rfl) (by kernel_rfl) (fun _ _ _ h => h) (by rfl) (fun w' hS => by go_simp) hS ?_
                          simp only [Act.put, List.setIfInBounds_toArray, List.set_cons_zero, List.set_cons_succ]
                          refine takeY (i := 1) (some 129) (v := .slice (K j).A (K j).n (K j).c) rfl rfl (by kernel_rfl) (by kernel_rfl) (by kernel_rfl) (fun _ _ _ h => h) (by rfl) (fun w' hS => by (have c9 : w'.cell? ⟨N61, 1, none⟩ = some (.slice (K j).A (K j).n (K j).c) := (hS.1.cell 1).trans rfl; clear hS; go_simp)) hS ?_
                          simp only [Act.put, List.setIfInBounds_toArray, List.set_cons_zero, List.set_cons_succ]
                          refine takeY (i := 2) (some 130) (v := .slice B n c) rfl rfl (by kernel_rfl) (by kernel_rfl) (by kernel_rfl) (fun _ _ _ h => h) (by rfl) (fun w' hS => by go_simp) hS ?_
                          simp only [Act.put, List.setIfInBounds_toArray, List.set_cons_zero, List.set_cons_succ]
                          obtain ⟨M0, hM0⟩ : ∃ N, W71.heap.size = N := ⟨_, rfl⟩
                          have HM0 := Lib.hid hM0
                          clear hM0
                          refine wpAnyH_ready (show Region.ready _ _ _ = [3, 5] from by kernel_rfl) (by simp) (consCE (i := 3) (some 131) 49 #[.slice B n c] (R := fun v w' => BlV W71 n (blkZ (z 4 = 18 ∨ z 4 = 20) z n) v w') rfl rfl (by rfl) (by go_simp) ((blank_any B n c z (z 4) W71 rfl (HBB.out.below (HB.out.trans (HR.out.mono HB.out.size)) rfl) HBN.out HN54.out HN2.out).mono fun e w' h => h.v) (fun v w' h => by obtain ⟨gb, cb, rfl, hgb, hu, hbu⟩ := h; exact ⟨hS.1.below hbu hS.1.lt, hS.2.trans (hbu.mono hS.2.size)⟩) ?_ (consMk (i := 5) (some 16) 26 (bytC 32 fun _ => 0) rfl rfl (by rfl) rfl zero_d M0 HM0.out ?_ AllReadyH.nil))
                          · skip
                            clear HM0
                            intro v W72 h hS2
                            obtain ⟨gb, cb, rfl, hgb, hu, hbu⟩ := h
                            simp only [Act.put, List.setIfInBounds_toArray, List.set_cons_zero, List.set_cons_succ]
                            clear K15
                            clear HR
                            clear hS
                            have hS := hS2
                            clear hS2
                            have K15 := Lib.hid hS.1
                            have HR := Lib.hid hS.2
                            have HV : Hid (ByO W72 gb n cb (blkZ (z 4 = 18 ∨ z 4 = 20) z n)) := Lib.hid hu
                            clear hu hbu hgb
                            obtain ⟨M1, hM1⟩ : ∃ N, W72.heap.size = N := ⟨_, rfl⟩
                            have HM1 := Lib.hid hM1
                            clear hM1
                            refine wpAnyH_ready (show Region.ready _ _ _ = [4, 5] from by kernel_rfl) (by simp) (consCE (i := 4) (some 132) 15 #[.slice (K j).A (K j).n (K j).c, .slice (some ⟨gb, 0, none⟩) n cb] (R := fun v w' => v = .agg (bytC 32 M) ∧ Below W72.heap.size W72 w') rfl rfl (by rfl) (by go_simp) ((rhmac_any (K j).A (K j).n (K j).c (K j).z (some ⟨gb, 0, none⟩) n cb _ W72 (((HK.out.below (HB.out.trans (HR.out.mono HB.out.size))).2 j hlt).2.1) (Own8.rd HV.out) (fun e => by cases e) (HKS.out j hlt).2 (by have := HN2.out; omega)).mono fun e w' h => ⟨_, h.1, by rw [HMM.out], h.2⟩) (fun v w' h => by obtain ⟨rfl, hbu⟩ := h; exact ⟨hS.1.below hbu hS.1.lt, hS.2.trans (hbu.mono hS.2.size)⟩) ?_ (consMk (i := 5) (some 16) 26 (bytC 32 fun _ => 0) rfl rfl (by rfl) rfl zero_d M1 HM1.out ?_ AllReadyH.nil))
                            · skip
                              clear HM1
                              intro v W73 h hS2
                              obtain ⟨rfl, hbu⟩ := h
                              simp only [Act.put, List.setIfInBounds_toArray, List.set_cons_zero, List.set_cons_succ]
                              have HVn := Lib.hid (HV.out.below hbu)
                              clear HV
                              have HV := HVn
                              clear HVn
                              clear K15
                              clear HR
                              clear hS
                              have hS := hS2
                              clear hS2
                              have K15 := Lib.hid hS.1
                              have HR := Lib.hid hS.2
                              clear hbu HV
                              obtain ⟨M2, hM2⟩ : ∃ N, W73.heap.size = N := ⟨_, rfl⟩
                              have HM2 := Lib.hid hM2
                              clear hM2
                              refine takeMk (i := 5) (some 16) 26 (bytC 32 fun _ => 0) rfl rfl (by kernel_rfl) (by rfl) rfl zero_d M2 HM2.out ?_
                              intro W74 k1 b1 s1
                              refine ⟨⟨hS.1.below b1 hS.1.lt, hS.2.trans (b1.mono hS.2.size)⟩, ?_⟩
                              simp only [Act.put, List.setIfInBounds_toArray, List.set_cons_zero, List.set_cons_succ]
                              have K16 := Lib.hid k1
                              clear k1
                              have lt_N61_M2 : N61 < M2 := by rw [← HM2.out]; exact K15.out.lt
                              have le_HR_M2 : w61.heap.size ≤ M2 := by rw [← HM2.out]; exact HR.out.size
                              have K15n := Lib.hid (K15.out.below b1 K15.out.lt)
                              clear K15
                              have K15 := K15n
                              clear K15n
                              have HRn := Lib.hid (HR.out.trans (b1.mono HR.out.size))
                              clear HR
                              have HR := HRn
                              clear HRn
                              clear b1 HM2 hS
                              have hS := (And.intro K15.out HR.out)
                              refine takeSt (i := 6) 26 (.tmp 16) (.tmp 132) M2 0 (.agg (bytC 32 M)) (bytC 32 M) (bytC 32 M) rfl rfl (by kernel_rfl) (by rfl) rfl rfl rfl rfl (info_d _) (byt_one _ _) K16.out (Nat.le_of_ble_eq_true rfl) (byt_all _ _ _) ?_
                              intro W75 q1
                              refine ⟨⟨K15.out.far q1 (by omega), HR.out.trans (q1.2.1 _ (by omega))⟩, ?_⟩
                              simp only [Act.put, List.setIfInBounds_toArray, List.set_cons_zero, List.set_cons_succ]
                              have K16n : Hid (Blk 26 W75 M2 (bytC 32 M)) := Lib.hid q1.1
                              clear K16
                              have K16 := K16n
                              clear K16n
                              have K15n := Lib.hid (K15.out.far q1 (by omega))
                              clear K15
                              have K15 := K15n
                              clear K15n
                              have HRn := Lib.hid (HR.out.trans (q1.2.1 _ (by omega)))
                              clear HR
                              have HR := HRn
                              clear HRn
                              clear q1 hS
                              have hS := (And.intro K15.out HR.out)
                              clear hS
                              refine wpAnyH_done (by kernel_rfl) ?_ _
                              go_wp2_with fail
                              go_meet
                              case rel => exact ⟨M2, rfl, le_HR_M2, K16, HR⟩
                            · skip
                              intro W74 k1 b1 s1
                              refine ⟨⟨hS.1.below b1 hS.1.lt, hS.2.trans (b1.mono hS.2.size)⟩, ?_⟩
                              simp only [Act.put, List.setIfInBounds_toArray, List.set_cons_zero, List.set_cons_succ]
                              have K16 := Lib.hid k1
                              clear k1
                              have lt_N61_M1 : N61 < M1 := by rw [← HM1.out]; exact K15.out.lt
                              have le_HR_M1 : w61.heap.size ≤ M1 := by rw [← HM1.out]; exact HR.out.size
                              have HVn := Lib.hid (HV.out.below b1)
                              clear HV
                              have HV := HVn
                              clear HVn
                              have K15n := Lib.hid (K15.out.below b1 K15.out.lt)
                              clear K15
                              have K15 := K15n
                              clear K15n
                              have HRn := Lib.hid (HR.out.trans (b1.mono HR.out.size))
                              clear HR
                              have HR := HRn
                              clear HRn
                              clear b1 HM1 hS
                              have hS := (And.intro K15.out HR.out)
                              refine takeCE (i := 4) (some 132) 15 #[.slice (K j).A (K j).n (K j).c, .slice (some ⟨gb, 0, none⟩) n cb] (R := fun v w' => v = .agg (bytC 32 M) ∧ Below W74.heap.size W74 w') rfl rfl (by kernel_rfl) (by rfl) (by go_simp) ((rhmac_any (K j).A (K j).n (K j).c (K j).z (some ⟨gb, 0, none⟩) n cb _ W74 (((HK.out.below (HB.out.trans (HR.out.mono HB.out.size))).2 j hlt).2.1) (Own8.rd HV.out) (fun e => by cases e) (HKS.out j hlt).2 (by have := HN2.out; omega)).mono fun e w' h => ⟨_, h.1, by rw [HMM.out], h.2⟩) (fun v w' h => by obtain ⟨rfl, hbu⟩ := h; exact ⟨hS.1.below hbu hS.1.lt, hS.2.trans (hbu.mono hS.2.size)⟩) ?_
                              intro v W75 h hS2
                              obtain ⟨rfl, hbu⟩ := h
                              simp only [Act.put, List.setIfInBounds_toArray, List.set_cons_zero, List.set_cons_succ]
                              have HVn := Lib.hid (HV.out.below hbu)
                              clear HV
                              have HV := HVn
                              clear HVn
                              have K16n := Lib.hid (K16.out.below hbu K16.out.lt)
                              clear K16
                              have K16 := K16n
                              clear K16n
                              clear K15
                              clear HR
                              clear hS
                              have hS := hS2
                              clear hS2
                              have K15 := Lib.hid hS.1
                              have HR := Lib.hid hS.2
                              clear hbu HV
                              refine takeSt (i := 6) 26 (.tmp 16) (.tmp 132) M1 0 (.agg (bytC 32 M)) (bytC 32 M) (bytC 32 M) rfl rfl (by kernel_rfl) (by rfl) rfl rfl rfl rfl (info_d _) (byt_one _ _) K16.out (Nat.le_of_ble_eq_true rfl) (byt_all _ _ _) ?_
                              intro W76 q1
                              refine ⟨⟨K15.out.far q1 (by omega), HR.out.trans (q1.2.1 _ (by omega))⟩, ?_⟩
                              simp only [Act.put, List.setIfInBounds_toArray, List.set_cons_zero, List.set_cons_succ]
                              have K16n : Hid (Blk 26 W76 M1 (bytC 32 M)) := Lib.hid q1.1
                              clear K16
                              have K16 := K16n
                              clear K16n
                              have K15n := Lib.hid (K15.out.far q1 (by omega))
                              clear K15
                              have K15 := K15n
                              clear K15n
                              have HRn := Lib.hid (HR.out.trans (q1.2.1 _ (by omega)))
                              clear HR
                              have HR := HRn
                              clear HRn
                              clear q1 hS
                              have hS := (And.intro K15.out HR.out)
                              clear hS
                              refine wpAnyH_done (by kernel_rfl) ?_ _
                              go_wp2_with fail
                              go_meet
                              case rel => exact ⟨M1, rfl, le_HR_M1, K16, HR⟩
                          · skip
                            intro W73 k1 b1 s1
                            refine ⟨⟨hS.1.below b1 hS.1.lt, hS.2.trans (b1.mono hS.2.size)⟩, ?_⟩
                            simp only [Act.put, List.setIfInBounds_toArray, List.set_cons_zero, List.set_cons_succ]
                            have K16 := Lib.hid k1
                            clear k1
                            have lt_N61_M0 : N61 < M0 := by rw [← HM0.out]; exact K15.out.lt
                            have le_HR_M0 : w61.heap.size ≤ M0 := by rw [← HM0.out]; exact HR.out.size
                            have K15n := Lib.hid (K15.out.below b1 K15.out.lt)
                            clear K15
                            have K15 := K15n
                            clear K15n
                            have HRn := Lib.hid (HR.out.trans (b1.mono HR.out.size))
                            clear HR
                            have HR := HRn
                            clear HRn
                            clear b1 HM0 hS
                            have hS := (And.intro K15.out HR.out)
                            refine takeCE (i := 3) (some 131) 49 #[.slice B n c] (R := fun v w' => BlV W73 n (blkZ (z 4 = 18 ∨ z 4 = 20) z n) v w') rfl rfl (by kernel_rfl) (by rfl) (by go_simp) ((blank_any B n c z (z 4) W73 rfl (HBB.out.below (HB.out.trans (HR.out.mono HB.out.size)) rfl) HBN.out HN54.out HN2.out).mono fun e w' h => h.v) (fun v w' h => by obtain ⟨gb, cb, rfl, hgb, hu, hbu⟩ := h; exact ⟨hS.1.below hbu hS.1.lt, hS.2.trans (hbu.mono hS.2.size)⟩) ?_
                            intro v W74 h hS2
                            obtain ⟨gb, cb, rfl, hgb, hu, hbu⟩ := h
                            simp only [Act.put, List.setIfInBounds_toArray, List.set_cons_zero, List.set_cons_succ]
                            have K16n := Lib.hid (K16.out.below hbu K16.out.lt)
                            clear K16
                            have K16 := K16n
                            clear K16n
                            clear K15
                            clear HR
                            clear hS
                            have hS := hS2
                            clear hS2
                            have K15 := Lib.hid hS.1
                            have HR := Lib.hid hS.2
                            have HV : Hid (ByO W74 gb n cb (blkZ (z 4 = 18 ∨ z 4 = 20) z n)) := Lib.hid hu
                            clear hu hbu hgb
                            refine takeCE (i := 4) (some 132) 15 #[.slice (K j).A (K j).n (K j).c, .slice (some ⟨gb, 0, none⟩) n cb] (R := fun v w' => v = .agg (bytC 32 M) ∧ Below W74.heap.size W74 w') rfl rfl (by kernel_rfl) (by rfl) (by go_simp) ((rhmac_any (K j).A (K j).n (K j).c (K j).z (some ⟨gb, 0, none⟩) n cb _ W74 (((HK.out.below (HB.out.trans (HR.out.mono HB.out.size))).2 j hlt).2.1) (Own8.rd HV.out) (fun e => by cases e) (HKS.out j hlt).2 (by have := HN2.out; omega)).mono fun e w' h => ⟨_, h.1, by rw [HMM.out], h.2⟩) (fun v w' h => by obtain ⟨rfl, hbu⟩ := h; exact ⟨hS.1.below hbu hS.1.lt, hS.2.trans (hbu.mono hS.2.size)⟩) ?_
                            intro v W75 h hS2
                            obtain ⟨rfl, hbu⟩ := h
                            simp only [Act.put, List.setIfInBounds_toArray, List.set_cons_zero, List.set_cons_succ]
                            have HVn := Lib.hid (HV.out.below hbu)
                            clear HV
                            have HV := HVn
                            clear HVn
                            have K16n := Lib.hid (K16.out.below hbu K16.out.lt)
                            clear K16
                            have K16 := K16n
                            clear K16n
                            clear K15
                            clear HR
                            clear hS
                            have hS := hS2
                            clear hS2
                            have K15 := Lib.hid hS.1
                            have HR := Lib.hid hS.2
                            clear hbu HV
                            refine takeSt (i := 6) 26 (.tmp 16) (.tmp 132) M0 0 (.agg (bytC 32 M)) (bytC 32 M) (bytC 32 M) rfl rfl (by kernel_rfl) (by rfl) rfl rfl rfl rfl (info_d _) (byt_one _ _) K16.out (Nat.le_of_ble_eq_true rfl) (byt_all _ _ _) ?_
                            intro W76 q1
                            refine ⟨⟨K15.out.far q1 (by omega), HR.out.trans (q1.2.1 _ (by omega))⟩, ?_⟩
                            simp only [Act.put, List.setIfInBounds_toArray, List.set_cons_zero, List.set_cons_succ]
                            have K16n : Hid (Blk 26 W76 M0 (bytC 32 M)) := Lib.hid q1.1
                            clear K16
                            have K16 := K16n
                            clear K16n
                            have K15n := Lib.hid (K15.out.far q1 (by omega))
                            clear K15
                            have K15 := K15n
                            clear K15n
                            have HRn := Lib.hid (HR.out.trans (q1.2.1 _ (by omega)))
                            clear HR
                            have HR := HRn
                            clear HRn
                            clear q1 hS
                            have hS := (And.intro K15.out HR.out)
                            clear hS
                            refine wpAnyH_done (by kernel_rfl) ?_ _
                            go_wp2_with fail
                            go_meet
                            case rel => exact ⟨M0, rfl, le_HR_M0, K16, HR⟩
                        case rest => as_aux_lemma =>
                          obtain ⟨N16, rfl, hN16, K16, HR⟩ := hcut
                          have b1 := HR.out
                          have K4n := Lib.hid (K4.out.below b1 K4.out.lt)
                          clear K4
                          have K4 := K4n
                          clear K4n
                          have K6n := Lib.hid (K6.out.below b1 K6.out.lt)
                          clear K6
                          have K6 := K6n
                          clear K6n
                          have KVn := Lib.hid (KV.out.below b1 KV.out.lt)
                          clear KV
                          have KV := KVn
                          clear KVn
                          have K15n := Lib.hid (K15.out.below b1 K15.out.lt)
                          clear K15
                          have K15 := K15n
                          clear K15n
                          have HOn := Lib.hid (HO.out.below b1)
                          clear HO
                          have HO := HOn
                          clear HOn
                          have HBn := Lib.hid (HB.out.trans (b1.mono HB.out.size))
                          clear HB
                          have HB := HBn
                          clear HBn
                          have HCn := Lib.hid (HC.out.trans (b1.mono HC.out.size))
                          clear HC
                          have HC := HCn
                          clear HCn
                          clear b1 HR
                          go_wp2_with fail
                          go_loopw [133] (fun t wr => ∃ i : Nat, i ≤ 32 ∧ t = .int .i64 (i : Int) ∧ Hid (∀ x, x < i → vz (3 + x) = M x) ∧ Hid (Below wc.heap.size wc wr)) (fun t _ => 32 - (intOf t).toNat)
                          case atStart => exact ⟨0, by omega, rfl, Lib.hid (fun x hx => absurd hx (Nat.not_lt_zero _)), Lib.hid (Below.refl _ _)⟩
                          case round => as_aux_lemma =>
                            obtain ⟨i, hi, rfl, HI2, HC3⟩ := hrel
                            have b1 := HC3.out
                            have K4n := Lib.hid (K4.out.below b1 K4.out.lt)
                            clear K4
                            have K4 := K4n
                            clear K4n
                            have K6n := Lib.hid (K6.out.below b1 K6.out.lt)
                            clear K6
                            have K6 := K6n
                            clear K6n
                            have KVn := Lib.hid (KV.out.below b1 KV.out.lt)
                            clear KV
                            have KV := KVn
                            clear KVn
                            have K15n := Lib.hid (K15.out.below b1 K15.out.lt)
                            clear K15
                            have K15 := K15n
                            clear K15n
                            have K16n := Lib.hid (K16.out.below b1 K16.out.lt)
                            clear K16
                            have K16 := K16n
                            clear K16n
                            have HOn := Lib.hid (HO.out.below b1)
                            clear HO
                            have HO := HOn
                            clear HOn
                            have HBn := Lib.hid (HB.out.trans (b1.mono HB.out.size))
                            clear HB
                            have HB := HBn
                            clear HBn
                            have HCn := Lib.hid (HC.out.trans (b1.mono HC.out.size))
                            clear HC
                            have HC := HCn
                            clear HCn
                            clear b1
                            by_cases hi32 : i < 32
                            · have h1 : (i : Int) < 32 := by omega
                              obtain ⟨xi, hxi⟩ : ∃ x : Nat, x = 3 + i := ⟨_, rfl⟩
                              have h3 : (3 : Int) + (i : Int) = (xi : Int) := by omega
                              have h4 : (xi : Int) < 35 := by omega
                              obtain ⟨y1, hy1⟩ : ∃ y, M i = y := ⟨_, rfl⟩
                              obtain ⟨y2, hy2⟩ : ∃ y, vz xi = y := ⟨_, rfl⟩
                              have c16 : wr.cell? ⟨N16, i, none⟩ = some (.int .u8 y1) := by rw [← hy1, K16.out.cell]; exact byt_at _ _ hi32
                              have cvi : wr.cell? ⟨bv, ov + xi, none⟩ = some (.int .u8 y2) := by rw [← hy2]; exact KV.out.2.1 xi (by omega)
                              have HY : Hid (M i = y1 ∧ vz (3 + i) = y2) := Lib.hid ⟨hy1, by rw [← hxi]; exact hy2⟩
                              clear hy1 hy2 hxi
                              go_wp2_with fail
                              go_quiet (fail)
                              have b1 := qbel wr nq
                              generalize hW62 : wr.drewN nq = w62 at b1 ⊢
                              clear hW62
                              have HCn := Lib.hid (HC3.out.trans (b1.mono HC3.out.size))
                              clear HC3
                              have HC3 := HCn
                              clear HCn
                              have K4n := Lib.hid (K4.out.below b1 K4.out.lt)
                              clear K4
                              have K4 := K4n
                              clear K4n
                              have K6n := Lib.hid (K6.out.below b1 K6.out.lt)
                              clear K6
                              have K6 := K6n
                              clear K6n
                              have KVn := Lib.hid (KV.out.below b1 KV.out.lt)
                              clear KV
                              have KV := KVn
                              clear KVn
                              have K15n := Lib.hid (K15.out.below b1 K15.out.lt)
                              clear K15
                              have K15 := K15n
                              clear K15n
                              have K16n := Lib.hid (K16.out.below b1 K16.out.lt)
                              clear K16
                              have K16 := K16n
                              clear K16n
                              have HOn := Lib.hid (HO.out.below b1)
                              clear HO
                              have HO := HOn
                              clear HOn
                              have HBn := Lib.hid (HB.out.trans (b1.mono HB.out.size))
                              clear HB
                              have HB := HBn
                              clear HBn
                              have HCn := Lib.hid (HC.out.trans (b1.mono HC.out.size))
                              clear HC
                              have HC := HCn
                              clear HCn
                              clear b1 c16 cvi
                              by_cases hyy : y1 = y2
                              · subst hyy
                                have hyb : (y1 != y1) = false := by simp
                                go_wp2_with fail
                                go_roundw
                                case rel => exact ⟨i + 1, by omega, by go_num, Lib.hid (fun x hx => by by_cases e : x = i; (subst e; rw [HY.out.1, HY.out.2]); exact HI2.out x (by omega)), HC3⟩
                                case measure => simp only [intOf]; omega
                              · have hyb : (y1 != y2) = true := by simpa using hyy
                                have HYY := Lib.hid hyy
                                clear hyy
                                have HNO : Hid (¬ Signed (itL q z) m (z 4) z n K k) := Lib.hid (fun h => by have h := HSI.out.1 h; have h := HSJ.out _ rfl ▸ h; have h2 := h.2 i hi32; rw [HY.out.2, HY.out.1] at h2; exact HYY.out h2.symm)
                                clear K6
                                clear KV
                                clear K15
                                clear K16
                                clear HC
                                go_upto_region 30 with (fail)
                                go_wp2_with (refine wpList_v (op := ⟨some 145, _, _, _, _, _⟩) rfl (.agg (pdC pd0)) (build_pd0R _ _ rfl _) ?_; refine Hid.out ?_)
                                refine Lib.hid ?_
                                go_wp2_with (refine wpList_st rfl 42 (.tmp 4) (.tmp 145) rfl N1 0 rfl (.agg (pdC pd0)) (pdC pd0) rfl rfl info_pdR (pdC_one _) K4.out (Nat.le_of_ble_eq_true rfl) (C' := pdC pd0) (pd_over _ _) ?_; intro w70 q1; refine Hid.out ?_)
                                refine Lib.hid ?_
                                have HBn := Lib.hid (HB.out.trans (q1.2.1 _ (by omega)))
                                clear HB
                                have HB := HBn
                                clear HBn
                                have K4n : Hid (Blk 42 w70 N1 (pdC pd0)) := Lib.hid q1.1
                                clear K4
                                have K4 := K4n
                                clear K4n q1
                                go_wp2_with fail
                                exact bodyPost_ret (results_2 rfl _ _ N1 (pdC (pd0)) (.int .i64 9) Tryd.underlying42 rfl info_pdR rfl rfl K4.out) rfl (.inr (.inr (.inr ⟨HX.out, HKP.out, HNO.out, rfl, HB.out⟩)))
                            · obtain rfl : i = 32 := by omega
                              have h1 : ¬ (32 : Int) < 32 := by decide
                              obtain ⟨v0, hv0⟩ : ∃ v, vz 0 = v := ⟨_, rfl⟩
                              have cv0 : wr.cell? ⟨bv, ov, none⟩ = some (.int .u8 v0) := by rw [← hv0]; have := KV.out.2.1 0 (by omega); rw [Nat.add_zero] at this; exact this
                              have HV0 := Lib.hid hv0
                              clear hv0
                              by_cases h3 : v0 = 3
                              · clear KV
                                clear K15
                                clear K16
                                clear HC
                                subst h3
                                have h3b : ((3 : Int) != 3) = false := rfl
                                have cp : wr.cell? ⟨N11, 46, none⟩ = some (.slice (some ⟨b7, o7, none⟩) m c7) := (K6.out.cell 46).trans (by rw [pd_46, HPA.out.1, HPA.out.2.1, HPA.out.2.2])
                                have hlc : l ≤ c7 := by have := HA7.out.2.1; omega
                                go_wp2_with (refine wpList_v (op := ⟨some 155, _, _, _, _, _⟩) rfl (.int .i64 (l : Int)) (HSUB.out _ _ _ _ _ _ rfl rfl rfl _) ?_; refine Hid.out ?_)
                                refine Lib.hid ?_
                                go_wp2_with (refine wpList_v (op := ⟨some 156, _, _, _, _, _⟩) rfl (.slice (some ⟨b7, o7, none⟩) l c7) (slice_o _ _ _ _ rfl b7 o7 l m c7 rfl rfl hlc _) ?_; refine Hid.out ?_)
                                refine Lib.hid ?_
                                clear cp
                                go_wp2_with (refine wpList_st rfl 40 (.tmp 157) (.tmp 156) rfl N11 46 rfl (.slice (some ⟨b7, o7, none⟩) l c7) (#[.slice (some ⟨b7, o7, none⟩) l c7]) rfl rfl info_lt one_sl K6.out (Nat.le_of_ble_eq_true rfl) (C' := pdC (withT p (some ⟨b7, o7, none⟩) l c7)) (pd_put _ _ _ _) ?_; intro w70 q1; refine Hid.out ?_)
                                refine Lib.hid ?_
                                have HO3 := Lib.hid (OwnT.farR HO.out K6.out q1)
                                have K4n := Lib.hid (K4.out.far q1 (by omega))
                                clear K4
                                have K4 := K4n
                                clear K4n
                                have HBn := Lib.hid (HB.out.trans (q1.2.1 _ (by omega)))
                                clear HB
                                have HB := HBn
                                clear HBn
                                have K6n : Hid (Blk 42 w70 N11 (pdC (withT p (some ⟨b7, o7, none⟩) l c7))) := Lib.hid q1.1
                                clear K6
                                have K6 := K6n
                                clear K6n q1
                                clear HO
                                have HO := HO3
                                clear HO3
                                go_wp2_with (refine wpList_ld (op := ⟨some 158, _, _, _, _, _⟩) (by rfl) 42 (.tmp 6) rfl N11 0 rfl (pdC (withT p (some ⟨b7, o7, none⟩) l c7)) _ K6.out.all Tryd.underlying42 rfl info_pdR ?_; refine Hid.out ?_)
                                refine Lib.hid ?_
                                go_wp2_with (refine wpList_st rfl 42 (.tmp 4) (.tmp 158) rfl N1 0 rfl (.agg (pdC (withT p (some ⟨b7, o7, none⟩) l c7))) (pdC (withT p (some ⟨b7, o7, none⟩) l c7)) rfl rfl info_pdR (pdC_one _) K4.out (Nat.le_of_ble_eq_true rfl) (C' := pdC (withT p (some ⟨b7, o7, none⟩) l c7)) (pd_over _ _) ?_; intro w80 q1; refine Hid.out ?_)
                                refine Lib.hid ?_
                                have HO3 := Lib.hid (OwnT.farR HO.out K4.out q1)
                                have K6n := Lib.hid (K6.out.far q1 (by omega))
                                clear K6
                                have K6 := K6n
                                clear K6n
                                have HBn := Lib.hid (HB.out.trans (q1.2.1 _ (by omega)))
                                clear HB
                                have HB := HBn
                                clear HBn
                                have K4n : Hid (Blk 42 w80 N1 (pdC (withT p (some ⟨b7, o7, none⟩) l c7))) := Lib.hid q1.1
                                clear K4
                                have K4 := K4n
                                clear K4n q1
                                clear HO
                                have HO := HO3
                                clear HO3
                                go_wp2_with fail
                                have HYES : Hid (Signed (itL q z) m (z 4) z n K k) := Lib.hid (HSI.out.2 (by rw [HSJ.out _ rfl]; exact ⟨HV0.out, HI2.out⟩))
                                exact bodyPost_ret (results_2 rfl _ _ N1 (pdC (withT p (some ⟨b7, o7, none⟩) l c7)) (.int .i64 0) Tryd.underlying42 rfl info_pdR rfl rfl K4.out) rfl (.inr (.inr (.inl ⟨HX.out, HKP.out, HYES.out, by rw [HM1.out]; exact ⟨some ⟨b7, o7, none⟩, c7, L, by rw [← HP.out]; rfl, OwnT.cut HO.out (by omega) (by omega), fun x hx => HI.out x (by omega), (fun e => by cases e), hlc, HA7.out.2.2, HB.out⟩⟩)))
                              · have h3b : (v0 != 3) = true := by simpa using h3
                                have H3 := Lib.hid h3
                                clear h3
                                have HNO : Hid (¬ Signed (itL q z) m (z 4) z n K k) := Lib.hid (fun h => by have h := HSI.out.1 h; have h := HSJ.out _ rfl ▸ h; exact H3.out (by rw [← HV0.out]; exact h.1))
                                clear K6
                                clear KV
                                clear K15
                                clear K16
                                clear HC
                                go_upto_region 33 with (fail)
                                go_wp2_with (refine wpList_v (op := ⟨some 151, _, _, _, _, _⟩) rfl (.agg (pdC pd0)) (build_pd0R _ _ rfl _) ?_; refine Hid.out ?_)
                                refine Lib.hid ?_
                                go_wp2_with (refine wpList_st rfl 42 (.tmp 4) (.tmp 151) rfl N1 0 rfl (.agg (pdC pd0)) (pdC pd0) rfl rfl info_pdR (pdC_one _) K4.out (Nat.le_of_ble_eq_true rfl) (C' := pdC pd0) (pd_over _ _) ?_; intro w70 q1; refine Hid.out ?_)
                                refine Lib.hid ?_
                                have HBn := Lib.hid (HB.out.trans (q1.2.1 _ (by omega)))
                                clear HB
                                have HB := HBn
                                clear HBn
                                have K4n : Hid (Blk 42 w70 N1 (pdC pd0)) := Lib.hid q1.1
                                clear K4
                                have K4 := K4n
                                clear K4n q1
                                go_wp2_with fail
                                exact bodyPost_ret (results_2 rfl _ _ N1 (pdC (pd0)) (.int .i64 9) Tryd.underlying42 rfl info_pdR rfl rfl K4.out) rfl (.inr (.inr (.inr ⟨HX.out, HKP.out, HNO.out, rfl, HB.out⟩)))
                      · have hne : ((id : Int) != (num : Int)) = true := by simp; omega
                        have HNE := Lib.hid hid3
                        clear hid3
                        go_wp2_with fail
                        go_roundw
                        case rel => exact ⟨j + 1, by omega, by go_num, Lib.hid (noKey_next HNK.out (by rw [HID.out]; have := HNE.out; simp; omega)), HC⟩
                        case measure => simp only [intOf]; omega
                    · obtain rfl : k = j := by omega
                      have hlast2 : ¬ (k : Int) < (k : Int) := by omega
                      have HNO : Hid (¬ Signed (itL q z) m (z 4) z n K k) := Lib.hid (fun h => by have h := HSI.out.1 h; have h := HSG.out _ rfl ▸ h; obtain ⟨f, h1, _⟩ := h.2.2.2; exact HNK.out f h1.1 h1.2.1)
                      clear K6
                      clear HC
                      go_upto_region 37 with (fail)
                      go_wp2_with (refine wpList_v (op := ⟨some 160, _, _, _, _, _⟩) rfl (.agg (pdC pd0)) (build_pd0R _ _ rfl _) ?_; refine Hid.out ?_)
                      refine Lib.hid ?_
                      go_wp2_with (refine wpList_st rfl 42 (.tmp 4) (.tmp 160) rfl N1 0 rfl (.agg (pdC pd0)) (pdC pd0) rfl rfl info_pdR (pdC_one _) K4.out (Nat.le_of_ble_eq_true rfl) (C' := pdC pd0) (pd_over _ _) ?_; intro w50 q1; refine Hid.out ?_)
                      refine Lib.hid ?_
                      have HBn := Lib.hid (HB.out.trans (q1.2.1 _ (by omega)))
                      clear HB
                      have HB := HBn
                      clear HBn
                      have K4n : Hid (Blk 42 w50 N1 (pdC pd0)) := Lib.hid q1.1
                      clear K4
                      have K4 := K4n
                      clear K4n q1
                      go_wp2_with fail
                      exact bodyPost_ret (results_2 rfl _ _ N1 (pdC (pd0)) (.int .i64 9) Tryd.underlying42 rfl info_pdR rfl rfl K4.out) rfl (.inr (.inr (.inr ⟨HX.out, HKP.out, HNO.out, rfl, HB.out⟩)))
                · have h35b : ((vn : Int) != 35) = true := by simp; omega
                  have H35 := Lib.hid h35
                  clear h35
                  have HNO : Hid (¬ Signed (itL q z) m (z 4) z n K k) := Lib.hid (fun h => by have h := HSI.out.1 h; have h := HSG.out _ rfl ▸ h; exact H35.out h.2.1)
                  clear K6
                  go_upto_region 19 with (fail)
                  go_wp2_with (refine wpList_v (op := ⟨some 100, _, _, _, _, _⟩) rfl (.agg (pdC pd0)) (build_pd0R _ _ rfl _) ?_; refine Hid.out ?_)
                  refine Lib.hid ?_
                  go_wp2_with (refine wpList_st rfl 42 (.tmp 4) (.tmp 100) rfl N1 0 rfl (.agg (pdC pd0)) (pdC pd0) rfl rfl info_pdR (pdC_one _) K4.out (Nat.le_of_ble_eq_true rfl) (C' := pdC pd0) (pd_over _ _) ?_; intro w40 q1; refine Hid.out ?_)
                  refine Lib.hid ?_
                  have HBn := Lib.hid (HB.out.trans (q1.2.1 _ (by omega)))
                  clear HB
                  have HB := HBn
                  clear HBn
                  have K4n : Hid (Blk 42 w40 N1 (pdC pd0)) := Lib.hid q1.1
                  clear K4
                  have K4 := K4n
                  clear K4n q1
                  go_wp2_with fail
                  exact bodyPost_ret (results_2 rfl _ _ N1 (pdC (pd0)) (.int .i64 9) Tryd.underlying42 rfl info_pdR rfl rfl K4.out) rfl (.inr (.inr (.inr ⟨HX.out, HKP.out, HNO.out, rfl, HB.out⟩)))
              · have htb : (vt != 10) = true := by simpa using ht
                have HT := Lib.hid ht
                clear ht
                have HNO : Hid (¬ Signed (itL q z) m (z 4) z n K k) := Lib.hid (fun h => by have h := HSI.out.1 h; have h3 := h.2.1; rw [HM1.out] at h3; exact HT.out (by rw [← HVT.out]; exact h3.2.1))
                clear K6
                go_upto_region 19 with (fail)
                go_wp2_with (refine wpList_v (op := ⟨some 100, _, _, _, _, _⟩) rfl (.agg (pdC pd0)) (build_pd0R _ _ rfl _) ?_; refine Hid.out ?_)
                refine Lib.hid ?_
                go_wp2_with (refine wpList_st rfl 42 (.tmp 4) (.tmp 100) rfl N1 0 rfl (.agg (pdC pd0)) (pdC pd0) rfl rfl info_pdR (pdC_one _) K4.out (Nat.le_of_ble_eq_true rfl) (C' := pdC pd0) (pd_over _ _) ?_; intro w40 q1; refine Hid.out ?_)
                refine Lib.hid ?_
                have HBn := Lib.hid (HB.out.trans (q1.2.1 _ (by omega)))
                clear HB
                have HB := HBn
                clear HBn
                have K4n : Hid (Blk 42 w40 N1 (pdC pd0)) := Lib.hid q1.1
                clear K4
                have K4 := K4n
                clear K4n q1
                go_wp2_with fail
                exact bodyPost_ret (results_2 rfl _ _ N1 (pdC (pd0)) (.int .i64 9) Tryd.underlying42 rfl info_pdR rfl rfl K4.out) rfl (.inr (.inr (.inr ⟨HX.out, HKP.out, HNO.out, rfl, HB.out⟩)))
            · have hn1b : ((nc : Int) != 1) = true := by simp; omega
              have HN1 := Lib.hid hn1
              clear hn1
              have HNO : Hid (¬ Signed (itL q z) m (z 4) z n K k) := Lib.hid (fun h => by have h := HSI.out.1 h; obtain ⟨l, rfl⟩ : ∃ l, m = l + 1 := ⟨m - 1, by have := h.1; omega⟩; have h2 := sig_cnt (by have h3 := h.2.1; rw [Nat.add_sub_cancel] at h3; exact h3); exact HN1.out (by rw [← HNC.out]; exact h2.1))
              clear K6
              go_upto_region 19 with (fail)
              go_wp2_with (refine wpList_v (op := ⟨some 100, _, _, _, _, _⟩) rfl (.agg (pdC pd0)) (build_pd0R _ _ rfl _) ?_; refine Hid.out ?_)
              refine Lib.hid ?_
              go_wp2_with (refine wpList_st rfl 42 (.tmp 4) (.tmp 100) rfl N1 0 rfl (.agg (pdC pd0)) (pdC pd0) rfl rfl info_pdR (pdC_one _) K4.out (Nat.le_of_ble_eq_true rfl) (C' := pdC pd0) (pd_over _ _) ?_; intro w40 q1; refine Hid.out ?_)
              refine Lib.hid ?_
              have HBn := Lib.hid (HB.out.trans (q1.2.1 _ (by omega)))
              clear HB
              have HB := HBn
              clear HBn
              have K4n : Hid (Blk 42 w40 N1 (pdC pd0)) := Lib.hid q1.1
              clear K4
              have K4 := K4n
              clear K4n q1
              go_wp2_with fail
              exact bodyPost_ret (results_2 rfl _ _ N1 (pdC (pd0)) (.int .i64 9) Tryd.underlying42 rfl info_pdR rfl rfl K4.out) rfl (.inr (.inr (.inr ⟨HX.out, HKP.out, HNO.out, rfl, HB.out⟩)))
        · clear K6
          go_wp2_with (refine wpList_v (op := ⟨some 60, _, _, _, _, _⟩) rfl (.agg (pdC pd0)) (build_pd0R _ _ rfl _) ?_; refine Hid.out ?_)
          refine Lib.hid ?_
          go_wp2_with (refine wpList_st rfl 42 (.tmp 4) (.tmp 60) rfl N1 0 rfl (.agg (pdC pd0)) (pdC pd0) rfl rfl info_pdR (pdC_one _) K4.out (Nat.le_of_ble_eq_true rfl) (C' := pdC pd0) (pd_over _ _) ?_; intro w40 q1; refine Hid.out ?_)
          refine Lib.hid ?_
          have HBn := Lib.hid (HB.out.trans (q1.2.1 _ (by omega)))
          clear HB
          have HB := HBn
          clear HBn
          have K4n : Hid (Blk 42 w40 N1 (pdC pd0)) := Lib.hid q1.1
          clear K4
          have K4 := K4n
          clear K4n q1
          go_wp2_with fail
          exact bodyPost_ret (results_2 rfl _ _ N1 (pdC (pd0)) (.int .i64 3) Tryd.underlying42 rfl info_pdR rfl rfl K4.out) rfl (.inl ⟨by rw [HKB.out]; simp, by rw [HKB.out]; exact ⟨rfl, HB.out⟩⟩)
      · clear K6
        go_wp2_with (refine wpList_v (op := ⟨some 53, _, _, _, _, _⟩) rfl (.agg (pdC pd0)) (build_pd0R _ _ rfl _) ?_; refine Hid.out ?_)
        refine Lib.hid ?_
        go_wp2_with (refine wpList_st rfl 42 (.tmp 4) (.tmp 53) rfl N1 0 rfl (.agg (pdC pd0)) (pdC pd0) rfl rfl info_pdR (pdC_one _) K4.out (Nat.le_of_ble_eq_true rfl) (C' := pdC pd0) (pd_over _ _) ?_; intro w40 q1; refine Hid.out ?_)
        refine Lib.hid ?_
        have HBn := Lib.hid (HB.out.trans (q1.2.1 _ (by omega)))
        clear HB
        have HB := HBn
        clear HBn
        have K4n : Hid (Blk 42 w40 N1 (pdC pd0)) := Lib.hid q1.1
        clear K4
        have K4 := K4n
        clear K4n q1
        go_wp2_with fail
        exact bodyPost_ret (results_2 rfl _ _ N1 (pdC (pd0)) (.int .i64 2) Tryd.underlying42 rfl info_pdR rfl rfl K4.out) rfl (.inl ⟨by rw [HKB.out]; simp, by rw [HKB.out]; exact ⟨rfl, HB.out⟩⟩)
end Go.Proofs.YtccoicjmmeoggaaDoor

/- What Open and the document's Open answer of bytes and keys: the same. Each theorem states its conditions. -/
namespace Go.Proofs.YtccoicjmmeoggaaDoor
open Go.RowKit
set_option linter.unusedVariables false
set_option linter.unusedSimpArgs false

theorem rd_spzO {w : World} {g n cap : Nat} {z : Nat → Int} (h : Own8 w g (n + 3) cap (spZ z n)) (hz : ∀ j, 0 ≤ z j ∧ z j ≤ 255) : Rd w (some ⟨g, 0, none⟩) n z := by
  refine ⟨.inr ⟨g, 0, rfl, h.lt, fun j hj => ?_, hz⟩, hz⟩
  have := h.row.2.1 j (by omega)
  rwa [spZ_in z n j hj] at this
theorem pd0_okO : PdOk pd0 := by
  have zb : ∀ j, 0 ≤ z0 j ∧ z0 j ≤ 255 := fun j => (⟨Int.le_refl 0, by decide⟩ : (0 : Int) ≤ 0 ∧ (0 : Int) ≤ 255)
  have b0 : by1 0 := ⟨Int.le_refl 0, by decide⟩
  have i0 : in64 0 := ⟨by decide, by decide⟩
  exact ⟨⟨b0, b0, zb, i0, b0, b0, zb⟩, i0, zb, Nat.zero_le _, b0, zb, zb⟩
theorem it_alikeO {z : Nat → Int} {L L' : Nat → It} {m : Nat} (h : IsItZ z L m) (h' : IsItZ z L' m) : ∀ j, j < m → (L j).ty = (L' j).ty ∧ (L j).n = (L' j).n ∧ ∀ i, i < (L j).n → (L j).z i = (L' j).z i := by
  intro j hj
  obtain ⟨g, cap, e⟩ := h j hj
  obtain ⟨g', cap', e'⟩ := h' j hj
  rw [e, e']
  exact ⟨rfl, rfl, fun i _ => rfl⟩
theorem keysE_al {K K' : Nat → It} {m : Nat} (h : ∀ j, j < m → Alike (K j) (K' j)) : keysE K m = keysE K' m := by
  have key : ∀ k, k ≤ m → ckE K k = ckE K' k := by
    intro k
    induction k with
    | zero => intro _; rfl
    | succ k ih => intro hk; simp only [ckE]; rw [ih (by omega), (h k (by omega)).2.1]
  unfold keysE
  split
  · rfl
  · exact key m (Nat.le_refl _)
theorem signed_kl {L : Nat → It} {m : Nat} {kd : Int} {z : Nat → Int} {n : Nat} {K K' : Nat → It} {mk : Nat} (h : ∀ j, j < mk → Alike (K j) (K' j)) : Signed L m kd z n K mk ↔ Signed L m kd z n K' mk := by
  have key : ∀ {K K' : Nat → It}, (∀ j, j < mk → Alike (K j) (K' j)) → Signed L m kd z n K mk → Signed L m kd z n K' mk := by
    rintro K K' h ⟨h0, h1, h2, h3, f, ⟨hf1, hf2, hf3⟩, hf⟩
    exact ⟨h0, h1, h2, h3, f, ⟨hf1, by rw [← (h f hf1).1]; exact hf2, fun j hj => by rw [← (h j (by omega)).1]; exact hf3 j hj⟩, fun j hj => by rw [← (h f hf1).2.2, ← (h f hf1).2.1]; exact hf j hj⟩
  exact ⟨key h, key (fun j hj => ⟨(h j hj).1.symm, (h j hj).2.1.symm, (h j hj).2.2.symm⟩)⟩
/-- what either leaves -/
def OutP (w : World) (E : Int) (x : Pd) (tz : Nat → Int) (m : Nat) (e : Ending) (w' : World) : Prop :=
  ∃ A c L, e = .returned (.tuple #[.agg (pdC (withT x A m c)), .int .i64 E]) ∧ OwnT w' w.heap.size (.slice A m c) m L ∧ IsItZ tz L m ∧ Below w.heap.size w w'
theorem out_err {w w' : World} {E : Int} {e : Ending} (h : RdErr w E e w') (tz : Nat → Int) : OutP w E pd0 tz 0 e w' :=
  ⟨none, 0, fun _ => ⟨0, none, 0, 0, z0⟩, h.1, OwnT.nil _ _ _, fun j hj => absurd hj (Nat.not_lt_zero _), h.2⟩
theorem out_ok {w w' : World} {q m : Nat} {z : Nat → Int} {e : Ending} (h : RdOk w q z m e w') : OutP w 0 (rdP q z) (tlZ q z) m e w' := by
  obtain ⟨A, c, L, h1, h2, h3, _, _, _, h4⟩ := h
  exact ⟨A, c, L, h1, h2, h3, h4⟩
structure BothO (n : Nat) (z : Nat → Int) (K : Nat → It) (mk : Nat) (E : Int) (x : Pd) (tz : Nat → Int) (m : Nat) : Prop where
  ok : PdOk x
  hm : m ≤ 1492
  hE : 0 ≤ E ∧ E ≤ 20
  op : ∀ (B : Option Addr) (c : Nat) (A : Option Addr) (ck : Nat) (K' : Nat → It) (w : World), Rd w B n z → n ≤ c → c ≤ maxLen → (B = none → n = 0 ∧ c = 0) → RdK w A mk K' → (∀ j, j < mk → Alike (K j) (K' j)) → Rts w 0 →
    Calls Tryd.prog 22 #[.slice B n c, .slice A mk ck] w (OutP w E x tz m)
  dc : ∀ (B : Option Addr) (c : Nat) (A : Option Addr) (ck : Nat) (w : World), Rd w B n z → n ≤ c → c ≤ maxLen → (B = none → n = 0 ∧ c = 0) → RdK w A mk K → mk ≤ 140737488351232 →
    Calls Tryd.prog 23 #[.slice B n c, .slice A mk ck] w (OutP w E x tz m)
theorem opnP_out {q m n : Nat} {z : Nat → Int} {K K' : Nat → It} {mk : Nat} {w w' : World} {e : Ending} (h : OpnP q m n z K' mk w e w') (hal : ∀ j, j < mk → Alike (K j) (K' j)) :
    (keysE K mk ≠ 0 → RdErr w (keysE K mk) e w') ∧ (keysE K mk = 0 → mk = 0 → RdOk w q z m e w') ∧ (keysE K mk = 0 → 0 < mk → Signed (itL q z) m (z 4) z n K mk → RdOk w q z (m - 1) e w') ∧ (keysE K mk = 0 → 0 < mk → ¬ Signed (itL q z) m (z 4) z n K mk → RdErr w 9 e w') := by
  unfold OpnP at h
  rw [← keysE_al hal, ← signed_kl hal] at h
  refine ⟨fun a => ?_, fun a b => ?_, fun a b d => ?_, fun a b d => ?_⟩ <;> rcases h with ⟨h1, h2⟩ | ⟨h1, h2, h3⟩ | ⟨h1, h2, h3, h4⟩ | ⟨h1, h2, h3, h4⟩ <;> first | assumption | contradiction | (exfalso; omega)
theorem al_refl (K : Nat → It) (m : Nat) : ∀ j, j < m → Alike (K j) (K j) := fun j _ => ⟨rfl, rfl, rfl⟩
theorem both_opn (n : Nat) (z : Nat → Int) (K : Nat → It) (mk : Nat) (hz : ∀ j, 0 ≤ z j ∧ z j ≤ 255) : ∃ E x tz m, BothO n z K mk E x tz m := by
  have hkb := keysE_bd K mk
  rcases both_rd n z with ⟨E, hE, hb⟩ | ⟨m, hn2, hg, hb⟩
  · refine ⟨lea E (keysE K mk), pd0, z0, 0, pd0_okO, by omega, lea_bd (by omega) (by omega), fun B c A ck K' w hr hc hcm hB hK hal hgr => ?_, fun B c A ck w hr hc hcm hB hK hmk => ?_⟩
    · rw [keysE_al hal]
      exact (open_no B n c z A mk ck K' E w hE (fun w hr => hb.1 B c w hr hc hcm) hr hK).mono fun e w' h => out_err h _
    · exact (docOpen_no B n c z A mk ck K E w hE (fun w hr => hb.2 B c w hr hc hcm) hr hK hmk).mono fun e w' h => out_err h _
  · have hmn : m ≤ 1492 := by
      have h1 := pos_mono (tlZ (cls (z 4)) z) 0 m (by omega)
      have h2 := hg.2.2.2.1
      simp only [pos] at h1
      omega
    have hq4 : cls (z 4) ≤ 4 := hg.1.2.1
    have hro := rdP_ok (cls (z 4)) hq4 z hz
    have hop : ∀ (B : Option Addr) (c : Nat) (A : Option Addr) (ck : Nat) (K' : Nat → It) (w : World), Rd w B n z → n ≤ c → c ≤ maxLen → (B = none → n = 0 ∧ c = 0) → RdK w A mk K' → Rts w 0 →
        Calls Tryd.prog 22 #[.slice B n c, .slice A mk ck] w (OpnP (cls (z 4)) m n z K' mk w) := fun B c A ck K' w hr hc hcm hB hK hgr =>
      open_yes B n c z A mk ck K' _ m w rfl hg hn2 (fun w hr => hb.1 B c w hr hc hcm) hr hB hK hgr
    have hdc : ∀ (B : Option Addr) (c : Nat) (A : Option Addr) (ck : Nat) (w : World), Rd w B n z → n ≤ c → c ≤ maxLen → (B = none → n = 0 ∧ c = 0) → RdK w A mk K → mk ≤ 140737488351232 →
        Calls Tryd.prog 23 #[.slice B n c, .slice A mk ck] w (OpnP (cls (z 4)) m n z K mk w) := fun B c A ck w hr hc hcm hB hK hmk =>
      docOpen_yes B n c z A mk ck K _ m w rfl hg hn2 (fun w hr => hb.2 B c w hr hc hcm) hr hB hK hmk
    by_cases h0 : keysE K mk = 0
    · by_cases hk0 : mk = 0
      · exact ⟨0, _, _, m, hro, hmn, by omega, fun B c A ck K' w hr hc hcm hB hK hal hgr => (hop B c A ck K' w hr hc hcm hB hK hgr).mono fun e w' h => out_ok ((opnP_out h hal).2.1 h0 hk0),
          fun B c A ck w hr hc hcm hB hK hmk => (hdc B c A ck w hr hc hcm hB hK hmk).mono fun e w' h => out_ok ((opnP_out h (al_refl K mk)).2.1 h0 hk0)⟩
      · by_cases hs : Signed (itL (cls (z 4)) z) m (z 4) z n K mk
        · exact ⟨0, _, _, m - 1, hro, by omega, by omega, fun B c A ck K' w hr hc hcm hB hK hal hgr => (hop B c A ck K' w hr hc hcm hB hK hgr).mono fun e w' h => out_ok ((opnP_out h hal).2.2.1 h0 (by omega) hs),
            fun B c A ck w hr hc hcm hB hK hmk => (hdc B c A ck w hr hc hcm hB hK hmk).mono fun e w' h => out_ok ((opnP_out h (al_refl K mk)).2.2.1 h0 (by omega) hs)⟩
        · exact ⟨9, pd0, z0, 0, pd0_okO, by omega, by omega, fun B c A ck K' w hr hc hcm hB hK hal hgr => (hop B c A ck K' w hr hc hcm hB hK hgr).mono fun e w' h => out_err ((opnP_out h hal).2.2.2 h0 (by omega) hs) _,
            fun B c A ck w hr hc hcm hB hK hmk => (hdc B c A ck w hr hc hcm hB hK hmk).mono fun e w' h => out_err ((opnP_out h (al_refl K mk)).2.2.2 h0 (by omega) hs) _⟩
    · exact ⟨keysE K mk, pd0, z0, 0, pd0_okO, by omega, by omega, fun B c A ck K' w hr hc hcm hB hK hal hgr => (hop B c A ck K' w hr hc hcm hB hK hgr).mono fun e w' h => out_err ((opnP_out h hal).1 h0) _,
        fun B c A ck w hr hc hcm hB hK hmk => (hdc B c A ck w hr hc hcm hB hK hmk).mono fun e w' h => out_err ((opnP_out h (al_refl K mk)).1 h0) _⟩
end Go.Proofs.YtccoicjmmeoggaaDoor

/- The walk of MacSeals: for every input the law returns true, and nothing that was there is written, if the table lies as the text lays it. -/
namespace Go.Proofs.YtccoicjmmeoggaaDoor
open Go.RowKit
set_option linter.unusedVariables false
set_option linter.unusedSimpArgs false

end Go.Proofs.YtccoicjmmeoggaaDoor

/- The walk of MacOpens: for every input the law returns true, and nothing that was there is written, if the table lies as the text lays it. -/
namespace Go.Proofs.YtccoicjmmeoggaaDoor
open Go.RowKit
set_option linter.unusedVariables false
set_option linter.unusedSimpArgs false

theorem bdrewNO {B : Nat} {a w : World} (h : Below B a w) (m : Nat) : Below B a (w.drewN m) := ⟨h.os, h.tape, h.output, h.size, h.block⟩
set_option maxHeartbeats 40000000 in
set_option maxRecDepth 100000 in
theorem walkMacOpensZ (B : Option Addr) (n c : Nat) (z : Nat → Int) (A : Option Addr) (mk ck : Nat) (K : Nat → It) (w : World) (hr : Rd w B n z) (hB : B = none → n = 0 ∧ c = 0) (hnc : n ≤ c) (hcm : c ≤ maxLen) (hn : n ≤ 140737488351232) (hk : RdK w A mk K) (hm32 : mk * 32 ≤ 140737488351232) (hg : Rts w 0)
    (E : Int) (x : Pd) (tz : Nat → Int) (m : Nat) (hbo : BothO n z K mk E x tz m) :
    Calls Tryd.prog 5 #[.slice B n c, .slice A mk ck] w fun e w' => e = .returned (.bool true) ∧ Below w.heap.size w w' := by
  have HR := Lib.hid hr
  have HBN := Lib.hid hB
  have HK := Lib.hid hk
  have HBO := Lib.hid hbo
  have RT := Lib.hid hg
  have HM := Lib.hid hbo.hm
  have hmk : mk ≤ 140737488351232 := by omega
  obtain ⟨ei, rfl⟩ : ∃ i : Nat, E = (i : Int) := ⟨E.toNat, by have := hbo.hE; omega⟩
  clear hr hB hk hbo hg
  go_enter Tryd.func5, Tryd.ntmps5
  have HB := Lib.hid (Below.refl w.heap.size w)
  go_wp2_with fail
  refine (awakeH_any w RT.out).mono ?_
  rintro e w1 ⟨rfl, b1⟩
  have HBn := Lib.hid (HB.out.trans (b1.mono HB.out.size))
  clear HB
  have HB := HBn
  clear HBn
  clear b1
  go_wp2_with fail
  refine (spare_any B n c z w1 (HR.out.below HB.out rfl) HBN.out hn).mono ?_
  rintro e w2 ⟨g, cap, rfl, hg, ho, b1⟩
  have HBn := Lib.hid (HB.out.trans (b1.mono HB.out.size))
  clear HB
  have HB := HBn
  clear HBn
  have HO := Lib.hid ho
  have hcap := ho.caps
  have HGLT := Lib.hid ho.lt
  clear ho b1
  have B2 := Lib.hid (Below.refl w2.heap.size w2)
  go_wp2_with fail
  refine (twinK_any A mk ck K w2 (HK.out.below HB.out) hm32).mono ?_
  rintro e w3 ⟨v7, K', rfl, hok, hal, b1⟩
  have HBn := Lib.hid (HB.out.trans (b1.mono HB.out.size))
  clear HB
  have HB := HBn
  clear HBn
  have B2n := Lib.hid (B2.out.trans (b1.mono B2.out.size))
  clear B2
  have B2 := B2n
  clear B2n
  obtain ⟨A', c', rfl, hmc', hcx', hA', hrk'⟩ := hok.shape
  have HK' := Lib.hid hrk'
  have HAL := Lib.hid hal
  clear hok hal hmc' hcx' hA' hrk' b1
  have B3 := Lib.hid (Below.refl w3.heap.size w3)
  go_wp2_with fail
  refine (HBO.out.op (some ⟨g, 0, none⟩) cap A' c' K' w3 (rd_spzO (HO.out.below B2.out HGLT.out) HR.out.2) (by omega) hcap.2 (fun e => by cases e) HK'.out HAL.out (RT.out.below HB.out RT.out.lt)).mono ?_
  rintro e w4 ⟨A1, c1, L1, rfl, hT1, hI1, b1⟩
  have HBn := Lib.hid (HB.out.trans (b1.mono HB.out.size))
  clear HB
  have HB := HBn
  clear HBn
  have B2n := Lib.hid (B2.out.trans (b1.mono B2.out.size))
  clear B2
  have B2 := B2n
  clear B2n
  have B3n := Lib.hid (B3.out.trans (b1.mono B3.out.size))
  clear B3
  have B3 := B3n
  clear B3n
  have HT1 := Lib.hid hT1
  have HI1 := Lib.hid hI1
  clear hT1 hI1 b1
  have B4 := Lib.hid (Below.refl w4.heap.size w4)
  obtain ⟨N5, hN5⟩ : ∃ N, w4.heap.size = N := ⟨_, rfl⟩
  have HN5 := Lib.hid hN5
  clear hN5
  go_wp2_with (refine wpList_new (op := ⟨some 8, _, _, _, _, _⟩) rfl 46 rfl (pdC pd0) zero_pdP N5 HN5.out ?_; intro w5 k1 b1 s1; refine Hid.out ?_)
  refine Lib.hid ?_
  have K8 := Lib.hid k1
  clear k1
  have le_HB_N5 : w.heap.size ≤ N5 := by rw [← HN5.out]; exact HB.out.size
  have le_B2_N5 : w2.heap.size ≤ N5 := by rw [← HN5.out]; exact B2.out.size
  have le_B3_N5 : w3.heap.size ≤ N5 := by rw [← HN5.out]; exact B3.out.size
  have le_B4_N5 : w4.heap.size ≤ N5 := by rw [← HN5.out]; exact B4.out.size
  have HBn := Lib.hid (HB.out.trans (b1.mono HB.out.size))
  clear HB
  have HB := HBn
  clear HBn
  have B2n := Lib.hid (B2.out.trans (b1.mono B2.out.size))
  clear B2
  have B2 := B2n
  clear B2n
  have B3n := Lib.hid (B3.out.trans (b1.mono B3.out.size))
  clear B3
  have B3 := B3n
  clear B3n
  have B4n := Lib.hid (B4.out.trans (b1.mono B4.out.size))
  clear B4
  have B4 := B4n
  clear B4n
  clear b1 HN5
  go_wp2_with (refine wpList_st rfl 46 (.tmp 8) (.tmp 27) rfl N5 0 rfl (.agg (pdC (withT x A1 m c1))) (pdC (withT x A1 m c1)) rfl rfl info_pdP (pdC_one _) K8.out (Nat.le_of_ble_eq_true rfl) (C' := pdC (withT x A1 m c1)) (pd_over _ _) ?_; intro w20 q1; refine Hid.out ?_)
  refine Lib.hid ?_
  have HBn := Lib.hid (HB.out.trans (q1.2.1 _ (by omega)))
  clear HB
  have HB := HBn
  clear HBn
  have B2n := Lib.hid (B2.out.trans (q1.2.1 _ (by omega)))
  clear B2
  have B2 := B2n
  clear B2n
  have B3n := Lib.hid (B3.out.trans (q1.2.1 _ (by omega)))
  clear B3
  have B3 := B3n
  clear B3n
  have B4n := Lib.hid (B4.out.trans (q1.2.1 _ (by omega)))
  clear B4
  have B4 := B4n
  clear B4n
  have K8n : Hid (Blk 46 w20 N5 (pdC (withT x A1 m c1))) := Lib.hid q1.1
  clear K8
  have K8 := K8n
  clear K8n q1
  go_wp2_with fail
  refine (HBO.out.dc B c A ck w20 (HR.out.below HB.out rfl) hnc hcm HBN.out (HK.out.below HB.out) hmk).mono ?_
  rintro e w21 ⟨A2, c2, L2, rfl, hT2, hI2, b1⟩
  have K8n := Lib.hid (K8.out.below b1 K8.out.lt)
  clear K8
  have K8 := K8n
  clear K8n
  have HBn := Lib.hid (HB.out.trans (b1.mono HB.out.size))
  clear HB
  have HB := HBn
  clear HBn
  have B2n := Lib.hid (B2.out.trans (b1.mono B2.out.size))
  clear B2
  have B2 := B2n
  clear B2n
  have B3n := Lib.hid (B3.out.trans (b1.mono B3.out.size))
  clear B3
  have B3 := B3n
  clear B3n
  have B4n := Lib.hid (B4.out.trans (b1.mono B4.out.size))
  clear B4
  have B4 := B4n
  clear B4n
  have HT2 := Lib.hid hT2
  have HI2 := Lib.hid hI2
  clear hT2 hI2 b1
  have B6 := Lib.hid (Below.refl w21.heap.size w21)
  obtain ⟨N22, hN22⟩ : ∃ N, w21.heap.size = N := ⟨_, rfl⟩
  have HN22 := Lib.hid hN22
  clear hN22
  go_wp2_with (refine wpList_new (op := ⟨some 10, _, _, _, _, _⟩) rfl 42 rfl (pdC pd0) zero_pdR N22 HN22.out ?_; intro w22 k1 b1 s1; refine Hid.out ?_)
  refine Lib.hid ?_
  have K10 := Lib.hid k1
  clear k1
  have lt_N5_N22 : N5 < N22 := by rw [← HN22.out]; exact K8.out.lt
  have le_HB_N22 : w.heap.size ≤ N22 := by rw [← HN22.out]; exact HB.out.size
  have le_B2_N22 : w2.heap.size ≤ N22 := by rw [← HN22.out]; exact B2.out.size
  have le_B3_N22 : w3.heap.size ≤ N22 := by rw [← HN22.out]; exact B3.out.size
  have le_B4_N22 : w4.heap.size ≤ N22 := by rw [← HN22.out]; exact B4.out.size
  have le_B6_N22 : w21.heap.size ≤ N22 := by rw [← HN22.out]; exact B6.out.size
  have K8n := Lib.hid (K8.out.below b1 K8.out.lt)
  clear K8
  have K8 := K8n
  clear K8n
  have HBn := Lib.hid (HB.out.trans (b1.mono HB.out.size))
  clear HB
  have HB := HBn
  clear HBn
  have B2n := Lib.hid (B2.out.trans (b1.mono B2.out.size))
  clear B2
  have B2 := B2n
  clear B2n
  have B3n := Lib.hid (B3.out.trans (b1.mono B3.out.size))
  clear B3
  have B3 := B3n
  clear B3n
  have B4n := Lib.hid (B4.out.trans (b1.mono B4.out.size))
  clear B4
  have B4 := B4n
  clear B4n
  have B6n := Lib.hid (B6.out.trans (b1.mono B6.out.size))
  clear B6
  have B6 := B6n
  clear B6n
  clear b1 HN22
  go_wp2_with (refine wpList_st rfl 42 (.tmp 10) (.tmp 33) rfl N22 0 rfl (.agg (pdC (withT x A2 m c2))) (pdC (withT x A2 m c2)) rfl rfl info_pdR (pdC_one _) K10.out (Nat.le_of_ble_eq_true rfl) (C' := pdC (withT x A2 m c2)) (pd_over _ _) ?_; intro w30 q1; refine Hid.out ?_)
  refine Lib.hid ?_
  have K8n := Lib.hid (K8.out.far q1 (by omega))
  clear K8
  have K8 := K8n
  clear K8n
  have HBn := Lib.hid (HB.out.trans (q1.2.1 _ (by omega)))
  clear HB
  have HB := HBn
  clear HBn
  have B2n := Lib.hid (B2.out.trans (q1.2.1 _ (by omega)))
  clear B2
  have B2 := B2n
  clear B2n
  have B3n := Lib.hid (B3.out.trans (q1.2.1 _ (by omega)))
  clear B3
  have B3 := B3n
  clear B3n
  have B4n := Lib.hid (B4.out.trans (q1.2.1 _ (by omega)))
  clear B4
  have B4 := B4n
  clear B4n
  have B6n := Lib.hid (B6.out.trans (q1.2.1 _ (by omega)))
  clear B6
  have B6 := B6n
  clear B6n
  have K10n : Hid (Blk 42 w30 N22 (pdC (withT x A2 m c2))) := Lib.hid q1.1
  clear K10
  have K10 := K10n
  clear K10n q1
  go_wp2_with fail
  go_loopw [37] (fun i wr => ∃ k : Nat, k ≤ mk ∧ i = .int .i64 k ∧ Hid (Below w30.heap.size w30 wr)) (fun i _ => mk - (intOf i).toNat)
  case atStart => exact ⟨0, by omega, rfl, Lib.hid (Below.refl _ _)⟩
  case round =>
    obtain ⟨k, hk, rfl, HW⟩ := hrel
    have HBr := Lib.hid (HB.out.trans (HW.out.mono HB.out.size))
    have B3r := Lib.hid (B3.out.trans (HW.out.mono B3.out.size))
    by_cases hlt : k < mk
    · have hki : (k : Int) < (mk : Int) := by omega
      have hrk := (HK.out.below HBr.out).1.row (by omega)
      obtain ⟨b, off, rfl, hr⟩ := hrk
      have hr2 := Lib.hid (hr.2 k hlt)
      have HKE := Lib.hid ((HK.out.below HBr.out).2 k hlt)
      have hrk2 := (HK'.out.below B3r.out).1.row (by omega)
      obtain ⟨b', off', rfl, hr'⟩ := hrk2
      have hr3 := Lib.hid (hr'.2 k hlt)
      have HKE' := Lib.hid ((HK'.out.below B3r.out).2 k hlt)
      have hbb : b < wr.heap.size := hr.1
      have hbb' : b' < wr.heap.size := hr'.1
      have HALk := Lib.hid (HAL.out k hlt)
      clear hr hr'
      obtain ⟨t, ht⟩ : ∃ t, K k = t := ⟨_, rfl⟩
      obtain ⟨t', ht'⟩ : ∃ t, K' k = t := ⟨_, rfl⟩
      rw [show kR K k = kC t from by unfold kR; rw [ht]] at hr2
      rw [show kR K' k = kC t' from by unfold kR; rw [ht']] at hr3
      rw [ht] at HKE HALk
      rw [ht'] at HKE' HALk
      obtain ⟨ty, At, nt, ct, zt⟩ := t
      obtain ⟨ty', At', nt', ct', zt'⟩ := t'
      obtain ⟨e1, e2, e3⟩ := HALk.out
      dsimp only at e1 e2 e3
      subst e1
      subst e2
      subst e3
      clear ht ht' HALk
      go_wp2_with (refine wpList_ld (op := ⟨some 41, _, _, _, _, _⟩) (by rfl) 45 (.tmp 40) rfl b (off + k * 2) rfl (kC ⟨ty, At, nt, ct, zt⟩) _ hr2.out Tryd.underlying45 rfl info_key ?_; refine Hid.out ?_)
      refine Lib.hid ?_
      have HWr := Lib.hid HW.out
      have BR := Lib.hid (Below.refl wr.heap.size wr)
      obtain ⟨N41, hN41⟩ : ∃ N, wr.heap.size = N := ⟨_, rfl⟩
      have HN41 := Lib.hid hN41
      clear hN41
      go_wp2_with (refine wpList_new (op := ⟨some 13, _, _, _, _, _⟩) rfl 45 rfl (#[.int .u16 0, .slice none 0 0]) zero_key N41 HN41.out ?_; intro w41 k1 b1 s1; refine Hid.out ?_)
      refine Lib.hid ?_
      have K13 := Lib.hid k1
      clear k1
      have le_HWr_N41 : w30.heap.size ≤ N41 := by rw [← HN41.out]; exact HWr.out.size
      have le_BR_N41 : wr.heap.size ≤ N41 := by rw [← HN41.out]; exact BR.out.size
      have HWrn := Lib.hid (HWr.out.trans (b1.mono HWr.out.size))
      clear HWr
      have HWr := HWrn
      clear HWrn
      have BRn := Lib.hid (BR.out.trans (b1.mono BR.out.size))
      clear BR
      have BR := BRn
      clear BRn
      clear b1 HN41
      go_wp2_with (refine wpList_st rfl 45 (.tmp 13) (.tmp 41) rfl N41 0 rfl (.agg (kC ⟨ty, At, nt, ct, zt⟩)) (kC ⟨ty, At, nt, ct, zt⟩) rfl rfl info_key (kC_one _) K13.out (Nat.le_of_ble_eq_true rfl) (C' := kC ⟨ty, At, nt, ct, zt⟩) (by rfl) ?_; intro w50 q1; refine Hid.out ?_)
      refine Lib.hid ?_
      have HWrn := Lib.hid (HWr.out.trans (q1.2.1 _ (by omega)))
      clear HWr
      have HWr := HWrn
      clear HWrn
      have BRn := Lib.hid (BR.out.trans (q1.2.1 _ (by omega)))
      clear BR
      have BR := BRn
      clear BRn
      have K13n : Hid (Blk 45 w50 N41 (kC ⟨ty, At, nt, ct, zt⟩)) := Lib.hid q1.1
      clear K13
      have K13 := K13n
      clear K13n q1
      have cA : w50.cell? ⟨b', off' + k * 2, none⟩ = some (.int .u16 ty) := (BR.out.cell (p := ⟨b', off' + k * 2, none⟩) hbb').trans (hr3.out 0 _ rfl)
      have cB : w50.cell? ⟨b', off' + k * 2 + 1, none⟩ = some (.slice At' nt ct') := (BR.out.cell (p := ⟨b', off' + k * 2 + 1, none⟩) hbb').trans (hr3.out 1 _ rfl)
      have cC : w50.cell? ⟨N41, 0, none⟩ = some (.int .u16 ty) := (K13.out.cell 0).trans rfl
      have cD : w50.cell? ⟨N41, 1, none⟩ = some (.slice At nt ct) := (K13.out.cell 1).trans rfl
      have hnk := HKE.out.2.2.2
      dsimp only at hnk
      have H := Lib.hid (fun (q : Nat) c d => same_yes At' At nt c d zt zt (w50.drewN q) (Rd.draws (HKE'.out.2.1.below BR.out rfl) q) (Rd.draws (HKE.out.2.1.below BR.out rfl) q) (fun _ _ => rfl) (by omega))
      clear hr2 hr3 HKE HKE' K13
      go_wp2_with fail
      go_quiet (first | (go_at_call 20; exact Calls.quiet_of (H.out _ _ _)))
      go_wp2
      go_roundw
      case rel => exact ⟨k + 1, by omega, by go_num, Lib.hid (bdrewNO HWr.out _)⟩
      case measure => simp [intOf]; omega
    · obtain rfl : mk = k := by omega
      have K8r := Lib.hid (K8.out.below HW.out K8.out.lt)
      have K10r := Lib.hid (K10.out.below HW.out K10.out.lt)
      have B4r := Lib.hid (B4.out.trans (HW.out.mono B4.out.size))
      have B6r := Lib.hid (B6.out.trans (HW.out.mono B6.out.size))
      have B2r := Lib.hid (B2.out.trans (HW.out.mono B2.out.size))
      have HSM := Lib.hid (show Calls Tryd.prog 24 #[.agg (pdC (withT x A1 m c1)), .agg (pdC (withT x A2 m c2))] wr fun e w' => e = .returned (.bool true) ∧ Below wr.heap.size wr w' from by
        obtain ⟨A9, c9, e9, _, _, _, hr9⟩ := (HT1.out.below B4r.out).shape
        cases e9
        obtain ⟨A9, c9, e9, _, _, _, hr8⟩ := (HT2.out.below B6r.out).shape
        cases e9
        exact same_pd (withT x A1 m c1) (withT x A2 m c2) L1 L2 wr HBO.out.ok rfl hr9 hr8 rfl (by show m ≤ 9223372036854775807; have := HM.out; omega) (it_alikeO HI1.out HI2.out))
      go_wp2_with (refine wpList_ld (op := ⟨some 62, _, _, _, _, _⟩) (by rfl) 46 (.tmp 8) rfl N5 0 rfl (pdC (withT x A1 m c1)) _ K8r.out.all Tryd.underlying46 rfl info_pdP ?_; refine Hid.out ?_)
      refine Lib.hid ?_
      go_wp2_with (refine wpList_ld (op := ⟨some 63, _, _, _, _, _⟩) (by rfl) 42 (.tmp 10) rfl N22 0 rfl (pdC (withT x A2 m c2)) _ K10r.out.all Tryd.underlying42 rfl info_pdR ?_; refine Hid.out ?_)
      refine Lib.hid ?_
      go_wp2_with fail
      refine (HSM.out).mono ?_
      rintro e w61 ⟨rfl, b1⟩
      have K8rn := Lib.hid (K8r.out.below b1 K8r.out.lt)
      clear K8r
      have K8r := K8rn
      clear K8rn
      have K10rn := Lib.hid (K10r.out.below b1 K10r.out.lt)
      clear K10r
      have K10r := K10rn
      clear K10rn
      have HBrn := Lib.hid (HBr.out.trans (b1.mono HBr.out.size))
      clear HBr
      have HBr := HBrn
      clear HBrn
      have B2rn := Lib.hid (B2r.out.trans (b1.mono B2r.out.size))
      clear B2r
      have B2r := B2rn
      clear B2rn
      clear b1
      go_wp2_with fail
      refine (kept_yes g n cap B c z w61 (HO.out.below B2r.out HGLT.out) (HR.out.below HBr.out rfl) hn).mono ?_
      rintro e w9 ⟨rfl, r', rfl⟩
      go_wp2_with fail
      go_ret
      exact ⟨rfl, bdrewNO HBr.out r'⟩
theorem walkMacOpens (B : Option Addr) (n c : Nat) (zs : List Int) (A : Option Addr) (mk ck : Nat) (K : Nat → It) (w : World) (h : IsRow .u8 w B n c zs) (hs : c * 1 ≤ 140737488351232) (hk : RdK w A mk K ∧ (A = none → mk = 0 ∧ ck = 0) ∧ mk ≤ ck ∧ ck * 32 ≤ 140737488351232) (hg : Rts w 0) :
    Calls Tryd.prog 5 #[.slice B n c, .slice A mk ck] w fun e w' => e = .returned (.bool true) ∧ Below w.heap.size w w' := by
  obtain ⟨hR, hA⟩ := isRow_rd h
  obtain ⟨hc, hcm⟩ := isRow_len h
  obtain ⟨E, x, tz, m, hbo⟩ := both_opn n (fun j => zs.getD j 0) K mk hR.2
  exact walkMacOpensZ B n c _ A mk ck K w hR hA hc hcm (by omega) hk.1 (by omega) hg E x tz m hbo
end Go.Proofs.YtccoicjmmeoggaaDoor

/- What mac's rows have alike: the table of roots, out of the row's list; a start that meets the list. -/
namespace Go.Proofs.YtccoicjmmeoggaaDoor
open Go.ChangeShapes Go.WideShapes Go.ChangeAt Go.RowKit
set_option linter.unusedVariables false

theorem own : ownKnob Tryd.prog.godebug = none := by kernel_rfl
theorem laidOut : laidOutB Tryd.prog = true := by kernel_rfl
theorem gRoot : Tryd.prog.globalNamed "waymark/mac.roots" = some 0 := by kernel_rfl
theorem gRootT : (Tryd.prog.globals[0]?).map (·.type) = some 76 := by kernel_rfl
theorem gRootC : Tryd.prog.cellsOf 76 = 64 := by kernel_rfl
theorem cu32 : Tryd.prog.cellsOf 39 = 1 := by kernel_rfl
def rootI : List Int := rootL.map fun (n : Nat) => (n : Int)
/-- what the rows list -/
def laidL : List (String × DataW Unit) := Rows.macPadsRow.laid
theorem laidL_eq : laidL = [("waymark/mac.roots", Lib.tabData .u32 rootI)] := by kernel_rfl
theorem rts_of_laid {W : World} (h : laidMetH Tryd.prog laidL W) : Rts W 0 := by
  rw [laidL_eq] at h
  rw [MakeChecks.laidMetH_plain _ _ _ (by kernel_rfl)] at h
  have ht := Lib.tabIs_of_head gRoot gRootT Tryd.underlying76 Tryd.underlying39 cu32 gRootC h
  refine ⟨fun i hi => ?_, ?_⟩
  · rw [ht.cell gRoot i (by show i < 64; exact hi)]
    unfold rootI rootN
    rw [List.getD_eq_getElem?_getD, List.getD_eq_getElem?_getD, List.getElem?_map]
    have hl : rootL.length = 64 := rfl
    rw [List.getElem?_eq_getElem (by rw [hl]; exact hi)]
    rfl
  · have hc := ht.cell gRoot 0 (by decide)
    exact World.block_lt_of_cell? W _ hc
/-- A start for the witness: the door's own. -/
noncomputable def laidWorld (os : Os) : World := World.doorLaid Tryd.prog 72 os
theorem laid_met (os : Os) (args : Array Value) : laidMet Tryd.prog laidL ((laidWorld os).forCall (fun _ _ => 0) ⟨#[], args, []⟩).memory :=
  laidMet_of_run' 8 (by kernel_rfl) (by kernel_rfl)
end Go.Proofs.YtccoicjmmeoggaaDoor
