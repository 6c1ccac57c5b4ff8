/- RibCatches, walked: the route to the prefix of no bits catches what nothing else does. No condition. -/
import Derived.Test.YtldgfjcdlkbngaaRbCa
import Derived.Deep.DeepCutAuto
namespace Go.Proofs.Ytldgfjcdlkbngaa
open Go.RowKit
set_option linter.unusedVariables false
set_option linter.unusedSimpArgs false

theorem FindQ.below {w w' : World} {S : List Rx} {T : Ts} {pl : Bool} {z : Nat → Int} {bq : Bool} {y : Rx} (h : FindQ w S T pl z bq y) (hb : Below w.heap.size w w') : FindQ w' S T pl z bq y := ⟨h.1.below hb, h.2⟩
theorem catch_end {w w' : World} {t s m c t' s' c' : Nat} {A A' : Option Addr} {S S' : List Rx} {T T' : Ts} {X : Nat → Rx} {pl bq bq2 : Bool} {z : Nat → Int} {y y2 : Rx} {v v' : World} (h1 : TabAt w t s m A c S T) (p1 : PermX m X S) (h2 : TabAt w' t' s' (m + 1) A' c' S' T') (p2 : PermX (m + 1) (addX X m (famB pl)) S')
    (hnd : ∀ i j, i < j → j < m + 1 → kyF (addX X m (famB pl) i).r.p ≠ kyF (addX X m (famB pl) j).r.p) (hB : ∀ i, i < m + 1 → RtB (addX X m (famB pl) i).r) (f1 : FindQ v S T pl z bq y) (f2 : FindQ v' S' T' pl z bq2 y2) : bq2 = true ∧ RtB y2.r ∧ (bq = true → y2.r = y.r) ∧ (bq = false → y2.r = (xall (famB pl)).r) := by
  obtain ⟨P', i', e1, e2, e3⟩ := catch_eq (z := z) h1 p1 h2 p2 (fun j hj => by rw [addX_lo X _ hj]) (by rw [addX_at]) hnd
  have hb2 : bq2 = true := by
    cases bq2 with
    | true => rfl
    | false =>
      have h9 := f2.2.2 rfl
      rw [e1] at h9
      have : true = false := congrArg (fun q : Pf × Int × Bool × Int => q.2.2.1) h9
      cases this
  obtain ⟨P2, i2, g1, g2, g3⟩ := f2.2.1 hb2
  rw [e1] at g1
  have hi : i' = i2 := Int.ofNat.inj (congrArg (fun q : Pf × Int × Bool × Int => q.2.1) g1)
  subst hi
  obtain ⟨q, hq, eq⟩ := p2.to i' (by rw [h2.len] at g2; exact g2)
  refine ⟨hb2, by rw [g3, eq]; exact hB q hq, fun hb => ?_, fun hb => ?_⟩
  · obtain ⟨P, i, k1, _, k3⟩ := f1.2.1 hb
    rw [g3, e2 P i k1, k3]
  · rw [g3, e3 0 (f1.2.2 hb)]
theorem len_rt (o : Oper) (e : Operand → Value) (x : Operand) (ho : o.op = .call { callee := .builtin .len, args := #[x], argTypes := #[60] }) (A : Option Addr) (n c : Nat) (h0 : e x = .slice A n c) (W : World) : (execOp e o).run Try.prog W = .ok (.value (.int .i64 (n : Int))) W := lenR_run o e x ho A n c h0 W
theorem add1_rt (o : Oper) (e : Operand → Value) (x : Operand) (ho : o.op = .binOp .add 3 x (.const (.int .i64 1)) 3) (n : Nat) (hn : n ≤ 1000) (h0 : e x = .int .i64 (n : Int)) (hc : e (.const (.int .i64 1)) = .int .i64 1) (W : World) : (execOp e o).run Try.prog W = .ok (.value (.int .i64 ((n + 1 : Nat) : Int))) W := by
  unfold execOp
  simp only [ho, h0, hc]
  simp [go_sem, IntKind.wrap_i64]
  try omega
section
variable {ops : Array Oper} {Q : Exit → Act → World → Prop} {md : Region.Mode} {S : World → Prop}
theorem takeBR {i : Nat} {oi : Oper} (d : Option Tmp) {fuel : Nat} {listed : Array Bool} {a : Act} {w : World} (hi : ops[i]? = some oi) (hd : oi.dst = d)
    (hr : Region.ready md ops listed = [i]) (hw : Region.wanted oi (yielded ops a.tmps) = true) {x : Operand} (ho : oi.op = .buildSlice 60 1 #[(0, x)]) (y : Rx) (h0 : a.eval x = .agg (rxC y)) (N : Nat) (hN : w.heap.size = N)
    (h : ∀ w', Blk 70 w' N (rxC y) → Below w.heap.size w w' → S w' ∧ wpAnyH Try.prog md ops Q S fuel (listed.setIfInBounds i true) (a.put d (.slice (some ⟨N, 0, none⟩) 1 1)) w') : wpAnyH Try.prog md ops Q S (fuel + 1) listed a w := by
  subst hN
  obtain ⟨h1, h2⟩ := h _ (heap_alloc_new w _) ((Below.refl _ _).alloc (Nat.le_refl _) _)
  exact takeV d hi hd hr hw (bs_rt w oi a.eval ho y h0) h1 h2
theorem consBR {i : Nat} {oi : Oper} (d : Option Tmp) {rs : List Nat} {fuel : Nat} {listed : Array Bool} {a : Act} {w : World} (hi : ops[i]? = some oi) (hd : oi.dst = d)
    (hw : Region.wanted oi (yielded ops a.tmps) = true) {x : Operand} (ho : oi.op = .buildSlice 60 1 #[(0, x)]) (y : Rx) (h0 : a.eval x = .agg (rxC y)) (N : Nat) (hN : w.heap.size = N)
    (h : ∀ w', Blk 70 w' N (rxC y) → Below w.heap.size w w' → S w' ∧ wpAnyH Try.prog md ops Q S fuel (listed.setIfInBounds i true) (a.put d (.slice (some ⟨N, 0, none⟩) 1 1)) w') (hs : AllReadyH Try.prog md ops Q S fuel listed a w rs) : AllReadyH Try.prog md ops Q S fuel listed a w (i :: rs) := by
  subst hN
  obtain ⟨h1, h2⟩ := h _ (heap_alloc_new w _) ((Below.refl _ _).alloc (Nat.le_refl _) _)
  exact consVW d hi hd hw (bs_rt w oi a.eval ho y h0) h1 h2 hs
end
set_option maxHeartbeats 64000000 in
set_option maxRecDepth 100000 in
theorem walkRibCatches (a0 : Option Addr) (len0 cap0 : Nat) (L0 : Nat → Rx) (a1 : Int) (zz : Nat → Int) (w : World) (h0 : InRx w a0 len0 cap0 L0) (h1 : (Lit.int .u8 a1).wf = true) (h2 : Bytes zz) :
    Calls Try.prog 11 #[.slice a0 len0 cap0, .int .u8 a1, .agg (agC zz)] w fun e w' => e = .returned (.bool true) ∧ Below w.heap.size w w' := by
  obtain ⟨pl, hpl⟩ : ∃ pl : Bool, a1 % 2 = iB pl := by
    rcases (by omega : a1 % 2 = 0 ∨ a1 % 2 = 1) with h | h
    · exact ⟨false, h⟩
    · exact ⟨true, h⟩
  have HPL := Lib.hid hpl
  have HA1 := Lib.hid (wf_u8 h1)
  have HL := Lib.hid h0
  have HX2 := Lib.hid h2
  have HAW := Lib.hid awakeR_any
  have HRB := Lib.hid (fun j => (h0.2.1 j).1)
  clear h0 h1 h2 hpl
  go_enter Try.func11, Try.ntmps11
  have HB := Lib.hid (Below.refl w.heap.size w)
  obtain ⟨N1, hN1⟩ : ∃ N, w.heap.size = N := ⟨_, rfl⟩
  have HN1 := Lib.hid hN1
  clear hN1
  go_wp2_with (refine wpList_box (op := ⟨some 5, _, _, _, _, _⟩) rfl 23 (.tmp 2) rfl (agC zz) rfl N1 HN1.out ?_; intro w1 k1 b1 s1; refine Hid.out ?_)
  refine Lib.hid ?_
  have K5 := Lib.hid k1
  clear k1
  have le_HB_N1 : w.heap.size ≤ N1 := by rw [← HN1.out]; exact HB.out.size
  have HBn := Lib.hid (HB.out.trans (b1.mono HB.out.size))
  clear HB
  have HB := HBn
  clear HBn
  clear b1 HN1
  go_wp2_with fail
  refine (HAW.out _).mono ?_
  rintro e w2 ⟨rfl, b1⟩
  have HBn := Lib.hid (HB.out.trans (b1.mono HB.out.size))
  clear HB
  have HB := HBn
  clear HBn
  have K5n := Lib.hid (K5.out.below b1 K5.out.lt)
  clear K5
  have K5 := K5n
  clear K5n
  clear b1
  go_wp2_with (refine wpList_v (op := ⟨some 25, _, _, _, _, _⟩) rfl (.int .i64 ((min len0 40 : Nat) : Int)) (min40 _ _ _ rfl len0 rfl rfl _) ?_; refine Hid.out ?_)
  refine Lib.hid ?_
  obtain ⟨m, hm⟩ : ∃ m, min len0 40 = m := ⟨_, rfl⟩
  rw [hm]
  have HM : Hid (m ≤ len0 ∧ m ≤ 40) := Lib.hid (by omega)
  clear hm
  go_wp2_with (refine wpList_v (op := ⟨some 26, _, _, _, _, _⟩) rfl (.slice a0 m cap0) (slice_rt _ _ _ _ rfl a0 len0 cap0 m (by rcases HL.out.1 with h | ⟨b, o, h, _⟩; exact .inl h; exact .inr ⟨b, o, h⟩) rfl rfl HM.out.1 HL.out.2.2.2.1 _) ?_; refine Hid.out ?_)
  refine Lib.hid ?_
  have HRR : Hid (∀ W, Below w.heap.size w W → RdR W a0 m 21 (fun j => rxC (L0 j)) ∧ ∀ j, j < m → HopAt W (L0 j)) := Lib.hid (fun W hW => ⟨(HL.out.1.below hW rfl).cut m HM.out.1, fun j _ => (HL.out.2.1 j).2.below hW⟩)
  go_wp2_with (refine wpList_v (op := ⟨some 28, _, _, _, _, _⟩) rfl (.int .u8 (iB pl)) (rem2_run _ _ _ _ _ rfl a1 (iB pl) HA1.out HPL.out rfl rfl _) ?_; refine Hid.out ?_)
  refine Lib.hid ?_
  go_wp2_with (refine wpList_v (op := ⟨some 29, _, _, _, _, _⟩) rfl (.int .u8 (2 * iB pl)) (mul2_run _ _ _ _ _ rfl pl rfl rfl _) ?_; refine Hid.out ?_)
  refine Lib.hid ?_
  go_wp2_with (refine wpList_v (op := ⟨some 30, _, _, _, _, _⟩) rfl (.int .u8 (famB pl)) (add4_run _ _ _ _ _ rfl pl rfl rfl _) ?_; refine Hid.out ?_)
  refine Lib.hid ?_
  go_wp2_with fail
  refine (twin_any L0 a0 m cap0 w2 (HRR.out _ HB.out).1 (HRR.out _ HB.out).2 (by have := HM.out; omega)).mono ?_
  rintro e w3 ⟨v1, S1, rfl, hc, b1⟩
  have HBn := Lib.hid (HB.out.trans (b1.mono HB.out.size))
  clear HB
  have HB := HBn
  clear HBn
  have K5n := Lib.hid (K5.out.below b1 K5.out.lt)
  clear K5
  have K5 := K5n
  clear K5n
  clear b1
  have HC := Lib.hid hc
  clear hc
  go_wp2_with fail
  refine (build_cpy HC.out (fun j _ => (HRB.out j).p) (by have := HM.out; omega)).mono ?_
  rintro e w4 ⟨b1, h⟩
  have HBn := Lib.hid (HB.out.trans (b1.mono HB.out.size))
  clear HB
  have HB := HBn
  clear HBn
  have K5n := Lib.hid (K5.out.below b1 K5.out.lt)
  clear K5
  have K5 := K5n
  clear K5n
  clear b1
  clear HC
  rcases h with ⟨er, her, rfl⟩ | ⟨t, s, A, c, S, T, rfl, htab, hp, hf, hnd⟩
  · rcases her with rfl | rfl
    · go_wp2
      first | (go_ret; exact ⟨rfl, HB.out⟩) | exact ⟨.bool true, by simp [results, Try.f11, go_sem], rfl, HB.out⟩ | exact bodyPost_ret (v := .bool true) (by simp [results, Try.f11, go_sem]) rfl ⟨rfl, HB.out⟩
    · go_wp2
      first | (go_ret; exact ⟨rfl, HB.out⟩) | exact ⟨.bool true, by simp [results, Try.f11, go_sem], rfl, HB.out⟩ | exact bodyPost_ret (v := .bool true) (by simp [results, Try.f11, go_sem]) rfl ⟨rfl, HB.out⟩
  have HTB := Lib.hid htab
  have HPM := Lib.hid hp
  have HFO := Lib.hid hf
  have HND := Lib.hid hnd
  clear htab hp hf hnd
  go_wp2_with (refine wpList_ld (op := ⟨some 44, _, _, _, _, _⟩) (by rfl) 23 (.tmp 5) rfl N1 0 rfl (agC zz) _ K5.out.all Try.underlying23 rfl (hi_ag zz) ?_; refine Hid.out ?_)
  refine Lib.hid ?_
  go_wp2_with fail
  refine (tfind_P t s m A c S T pl zz HX2.out _ HTB.out).mono ?_
  rintro e w5 ⟨bq, y1, rfl, hq, b1⟩
  have HBn := Lib.hid (HB.out.trans (b1.mono HB.out.size))
  clear HB
  have HB := HBn
  clear HBn
  have K5n := Lib.hid (K5.out.below b1 K5.out.lt)
  clear K5
  have K5 := K5n
  clear K5n
  have HTBn := Lib.hid (HTB.out.below b1)
  clear HTB
  have HTB := HTBn
  clear HTBn
  clear b1
  have HF1 := Lib.hid hq
  clear hq
  obtain ⟨NK9, hNK9⟩ : ∃ N, w5.heap.size = N := ⟨_, rfl⟩
  have HNK9 := Lib.hid hNK9
  clear hNK9
  go_wp2_with (refine wpList_new (op := ⟨some 9, _, _, _, _, _⟩) rfl 70 rfl (rxC rx0) zero_rt NK9 HNK9.out ?_; intro w6 k1 b1 s1; refine Hid.out ?_)
  refine Lib.hid ?_
  have KX := Lib.hid k1
  have BX := Lib.hid b1
  clear k1 b1 s1
  go_wp2_with (refine wpList_st rfl 70 (.tmp 9) (.tmp 46) rfl NK9 0 rfl (.agg (rxC y1)) (rxC y1) rfl rfl info_rt (rx_one _) KX.out (Nat.le_of_ble_eq_true rfl) (C' := rxC y1) (rx_over _ _) ?_; intro wo q1; refine Hid.out ?_)
  refine Lib.hid ?_
  have b1 : Below w5.heap.size w5 wo := BX.out.trans (q1.2.1 _ (by rw [HNK9.out]; exact Nat.le_refl _))
  have HBn := Lib.hid (HB.out.trans (b1.mono HB.out.size))
  clear HB
  have HB := HBn
  clear HBn
  have K5n := Lib.hid (K5.out.below b1 K5.out.lt)
  clear K5
  have K5 := K5n
  clear K5n
  have HTBn := Lib.hid (HTB.out.below b1)
  clear HTB
  have HTB := HTBn
  clear HTBn
  have HF1n := Lib.hid (HF1.out.below b1)
  clear HF1
  have HF1 := HF1n
  clear HF1n
  have K9 : Hid (Blk 70 wo NK9 (rxC y1)) := Lib.hid q1.1
  clear KX BX q1 b1 HNK9
  go_wp2_with fail
  go_loopw [51] (fun t wr => ∃ i : Nat, i ≤ m ∧ t = .int .i64 i ∧ Hid (∀ j, j < i → ¬ ((L0 j).r.p.fam = famB pl ∧ (L0 j).r.p.len = 0 ∧ Same16 (L0 j).r.p.z Z0)) ∧ Hid (Below wo.heap.size wo wr)) (fun t _ => m - (intOf t).toNat)
  case atStart => exact ⟨0, by omega, rfl, Lib.hid (fun j hj => by omega), Lib.hid (Below.refl _ _)⟩
  case round =>
    obtain ⟨i, hi, rfl, hno, hbo⟩ := hrel
    have HNO := hno
    have HBo := hbo
    clear hno hbo
    by_cases hin : i < m
    · have HIN := Lib.hid hin
      have HBn := Lib.hid (HB.out.trans (HBo.out.mono HB.out.size))
      clear HB
      have HB := HBn
      clear HBn
      have hii : (i : Int) < (m : Int) := by omega
      have hi0 : (0 : Int) ≤ (i : Int) := by omega
      have hib : (i : Int) < 1000 := by have := HM.out; omega
      clear hin hi
      obtain ⟨b0, o0, rfl, r0⟩ := (HRR.out _ HB.out).1.row (by have := HIN.out; omega)
      have R0 := Lib.hid (r0.2 i HIN.out)
      clear r0
      go_wp2_with (refine wpList_ld (op := ⟨some 54, _, _, _, _, _⟩) (by rfl) 70 (.tmp 53) rfl b0 (o0 + i * 21) rfl (rxC (L0 i)) _ R0.out Try.underlying70 rfl info_rt ?_; refine Hid.out ?_)
      refine Lib.hid ?_
      obtain ⟨NK13, hNK13⟩ : ∃ N, wr.heap.size = N := ⟨_, rfl⟩
      have HNK13 := Lib.hid hNK13
      clear hNK13
      go_wp2_with (refine wpList_new (op := ⟨some 13, _, _, _, _, _⟩) rfl 70 rfl (rxC rx0) zero_rt NK13 HNK13.out ?_; intro w11 k1 b1 s1; refine Hid.out ?_)
      refine Lib.hid ?_
      have KX := Lib.hid k1
      have BX := Lib.hid b1
      clear k1 b1 s1
      go_wp2_with (refine wpList_st rfl 70 (.tmp 13) (.tmp 54) rfl NK13 0 rfl (.agg (rxC (L0 i))) (rxC (L0 i)) rfl rfl info_rt (rx_one _) KX.out (Nat.le_of_ble_eq_true rfl) (C' := rxC (L0 i)) (rx_over _ _) ?_; intro w12 q1; refine Hid.out ?_)
      refine Lib.hid ?_
      have b1 : Below wr.heap.size wr w12 := BX.out.trans (q1.2.1 _ (by rw [HNK13.out]; exact Nat.le_refl _))
      have HBn := Lib.hid (HB.out.trans (b1.mono HB.out.size))
      clear HB
      have HB := HBn
      clear HBn
      have HBon := Lib.hid (HBo.out.trans (b1.mono HBo.out.size))
      clear HBo
      have HBo := HBon
      clear HBon
      have K13 : Hid (Blk 70 w12 NK13 (rxC (L0 i))) := Lib.hid q1.1
      clear KX BX q1 b1 HNK13
      go_wp2_with (refine wpList_ld (op := ⟨some 56, _, _, _, _, _⟩) (by rfl) 32 (.tmp 55) rfl NK13 0 rfl (pfC (L0 i).r.p) _ K13.out.rxpf Try.underlying32 rfl (hi_pv _ _ _) ?_; refine Hid.out ?_)
      refine Lib.hid ?_
      go_wp2_with (refine wpList_v (op := ⟨some 58, _, _, _, _, _⟩) rfl (.agg (pvC (famB pl) 0 Z0)) (bld_pv1 _ _ _ rfl (famB pl) rfl _) ?_; refine Hid.out ?_)
      refine Lib.hid ?_
      by_cases hroot : (L0 i).r.p.fam = famB pl ∧ (L0 i).r.p.len = 0 ∧ Same16 (L0 i).r.p.z Z0
      · have HRT := Lib.hid hroot
        clear hroot
        go_wp2_with (refine wpList_v (op := ⟨some 59, _, _, _, _, _⟩) rfl (.bool true) (eql_is true (decide_eq_true HRT.out) _ _ _ _ rfl (HRB.out i).p (fun j => show (0 : Int) ≤ 0 ∧ (0 : Int) ≤ 255 from by omega) rfl rfl _) ?_; refine Hid.out ?_)
        refine Lib.hid ?_
        cases bq with
        | false => exact absurd (HF1.out.2.2 rfl) (root_found HTB.out HPM.out HIN.out (root_is (HRB.out i).p HRT.out) 0)
        | true =>
          go_wp2
          first | (go_ret; exact ⟨rfl, HB.out⟩) | exact ⟨.bool true, by simp [results, Try.f11, go_sem], rfl, HB.out⟩ | exact bodyPost_ret (v := .bool true) (by simp [results, Try.f11, go_sem]) rfl ⟨rfl, HB.out⟩
      · have HRT := Lib.hid hroot
        clear hroot
        go_wp2_with (refine wpList_v (op := ⟨some 59, _, _, _, _, _⟩) rfl (.bool false) (eql_is false (decide_eq_false HRT.out) _ _ _ _ rfl (HRB.out i).p (fun j => show (0 : Int) ≤ 0 ∧ (0 : Int) ≤ 255 from by omega) rfl rfl _) ?_; refine Hid.out ?_)
        refine Lib.hid ?_
        go_wp2
        go_roundw
        case rel => exact ⟨i + 1, by have := HIN.out; omega, by go_num, Lib.hid (fun j hj => by by_cases h : j = i; exact h ▸ HRT.out; exact HNO.out j (by omega)), HBo⟩
        case measure => have := HIN.out; simp only [intOf]; omega
    · have hii : ¬ (i : Int) < (m : Int) := by omega
      have him : i = m := by omega
      have HNR := Lib.hid (him ▸ HNO.out)
      clear him hin hi HNO
      have b1 := HBo.out
      clear HBo
      have HBn := Lib.hid (HB.out.trans (b1.mono HB.out.size))
      clear HB
      have HB := HBn
      clear HBn
      have K5n := Lib.hid (K5.out.below b1 K5.out.lt)
      clear K5
      have K5 := K5n
      clear K5n
      have HTBn := Lib.hid (HTB.out.below b1)
      clear HTB
      have HTB := HTBn
      clear HTBn
      have HF1n := Lib.hid (HF1.out.below b1)
      clear HF1
      have HF1 := HF1n
      clear HF1n
      have K9n := Lib.hid (K9.out.below b1 K9.out.lt)
      clear K9
      have K9 := K9n
      clear K9n
      clear b1
      go_wp2_with (refine wpList_v (op := ⟨some 67, _, _, _, _, _⟩) rfl (.agg (pvC (famB pl) 0 Z0)) (bld_pv1 _ _ _ rfl (famB pl) rfl _) ?_; refine Hid.out ?_)
      refine Lib.hid ?_
      go_wp2_with (refine wpList_v (op := ⟨some 68, _, _, _, _, _⟩) rfl (.agg (rxC (xall (famB pl)))) (bld_all _ _ _ rfl (famB pl) rfl rfl rfl _) ?_; refine Hid.out ?_)
      refine Lib.hid ?_
      obtain ⟨NK14, hNK14⟩ : ∃ N, wr.heap.size = N := ⟨_, rfl⟩
      have HNK14 := Lib.hid hNK14
      clear hNK14
      go_wp2_with (refine wpList_new (op := ⟨some 14, _, _, _, _, _⟩) rfl 70 rfl (rxC rx0) zero_rt NK14 HNK14.out ?_; intro w13 k1 b1 s1; refine Hid.out ?_)
      refine Lib.hid ?_
      have KX := Lib.hid k1
      have BX := Lib.hid b1
      clear k1 b1 s1
      go_wp2_with (refine wpList_st rfl 70 (.tmp 14) (.tmp 68) rfl NK14 0 rfl (.agg (rxC (xall (famB pl)))) (rxC (xall (famB pl))) rfl rfl info_rt (rx_one _) KX.out (Nat.le_of_ble_eq_true rfl) (C' := rxC (xall (famB pl))) (rx_over _ _) ?_; intro wq q1; refine Hid.out ?_)
      refine Lib.hid ?_
      have b1 : Below wr.heap.size wr wq := BX.out.trans (q1.2.1 _ (by rw [HNK14.out]; exact Nat.le_refl _))
      have HBn := Lib.hid (HB.out.trans (b1.mono HB.out.size))
      clear HB
      have HB := HBn
      clear HBn
      have K5n := Lib.hid (K5.out.below b1 K5.out.lt)
      clear K5
      have K5 := K5n
      clear K5n
      have HTBn := Lib.hid (HTB.out.below b1)
      clear HTB
      have HTB := HTBn
      clear HTBn
      have HF1n := Lib.hid (HF1.out.below b1)
      clear HF1
      have HF1 := HF1n
      clear HF1n
      have K9n := Lib.hid (K9.out.below b1 K9.out.lt)
      clear K9
      have K9 := K9n
      clear K9n
      have K14 : Hid (Blk 70 wq NK14 (rxC (xall (famB pl)))) := Lib.hid q1.1
      clear KX BX q1 b1 HNK14
      have HND2 := Lib.hid (addX_nd (pl := pl) HND.out (fun i _ => (HRB.out i).p) HNR.out)
      have HB2 := Lib.hid (addX_b (f := famB pl) (fun i (_ : i < m) => HRB.out i))
      have HFO2 := Lib.hid (addX_form (pl := pl) HFO.out)
      go_wp2_with fail
      go_cut [15, 16] (fun s1 s2 wc => ∃ (t2 s2_ : Nat) (A2 : Option Addr) (c2 : Nat) (S2 : List Rx) (T2 : Ts), s1 = .pointer (some ⟨t2, 0, none⟩) ∧ s2 = .int .i64 0 ∧ Hid (TabAt wc t2 s2_ (m + 1) A2 c2 S2 T2) ∧ Hid (PermX (m + 1) (addX L0 m (famB pl)) S2) ∧ Hid (Below wq.heap.size wq wc))
      case first =>
        refine wp_region_held_drew (S := fun w' => Below wq.heap.size wq w') (by kernel_rfl) (Below.refl _ wq).drew (fun hS => ?_)
        generalize hW9 : wq.drew = W9 at hS ⊢
        clear hW9
        have HWQ : Hid (∀ W, Below wq.heap.size wq W → RdR W a0 m 21 (fun j => rxC (L0 j)) ∧ ∀ j, j < m → HopAt W (L0 j)) := Lib.hid (fun W hW => HRR.out W (HB.out.trans (hW.mono HB.out.size)))
        refine takeY (i := 0) (some 70) (v := .slice a0 m cap0) rfl rfl (by kernel_rfl) (by kernel_rfl) (by kernel_rfl) (fun _ _ _ h => h) (by rfl) (fun w' hS => by clear hS; go_simp) hS ?_
        simp only [Act.put, List.setIfInBounds_toArray, List.set_cons_zero, List.set_cons_succ]
        refine takeL (i := 2) (some 72) 70 (.tmp 14) NK14 0 (rxC (xall (famB pl))) _ rfl rfl (by kernel_rfl) (by kernel_rfl) (by kernel_rfl) (fun _ _ _ h => h) (by rfl) rfl rfl (fun w' hS => (K14.out.below hS K14.out.lt).all) Try.underlying70 rfl info_rt hS ?_
        simp only [Act.put, List.setIfInBounds_toArray, List.set_cons_zero, List.set_cons_succ]
        obtain ⟨NB, hNB⟩ : ∃ N, W9.heap.size = N := ⟨_, rfl⟩
        have HNB := Lib.hid hNB
        clear hNB
        refine wpAnyH_ready (show Region.ready _ _ _ = [1, 3] by kernel_rfl) (by simp) ?_
        refine consCE (i := 1) (some 71) 30 #[.slice a0 m cap0] (R := fun v w' => ∃ S, Cpy w' wq.heap.size m L0 v S ∧ Below W9.heap.size W9 w') rfl rfl (by rfl) (by go_simp) ((twin_any L0 a0 m cap0 W9 (HWQ.out _ hS).1 (HWQ.out _ hS).2 (by have := HM.out; omega)).mono (fun e w' h => by obtain ⟨v, S, e1, h2, h3⟩ := h; exact ⟨v, e1, S, h2.mono hS.size, h3⟩)) (fun v w' h => by obtain ⟨_, _, hb⟩ := h; exact hS.trans (hb.mono hS.size)) (fun v1 W1 h hS2 => ?_) (consBR (i := 3) (some 73) rfl rfl (by rfl) rfl (xall (famB pl)) rfl NB HNB.out (fun W1 kb hb => ⟨hS.trans (hb.mono hS.size), ?_⟩) AllReadyH.nil)
        · obtain ⟨S1, hc, hb⟩ := h
          simp only [Act.put, List.setIfInBounds_toArray, List.set_cons_zero, List.set_cons_succ]
          have HC0 := Lib.hid hc
          clear hc hb hS HNB
          have hS := hS2
          clear hS2
          obtain ⟨NB2, hNB⟩ : ∃ N, W1.heap.size = N := ⟨_, rfl⟩
          refine takeBR (i := 3) (some 73) rfl rfl (by kernel_rfl) (by rfl) rfl (xall (famB pl)) rfl NB2 hNB (fun W2 kb hb => ⟨hS.trans (hb.mono hS.size), ?_⟩)
          simp only [Act.put, List.setIfInBounds_toArray, List.set_cons_zero, List.set_cons_succ]
          have KB := Lib.hid kb
          have HC := Lib.hid (HC0.out.below hb)
          have hS2 := hS.trans (hb.mono hS.size)
          clear kb hb hS HC0 hNB
          have hS := hS2
          clear hS2
          refine takeRa (i := 4) (some 74) (.tmp 71) (.tmp 73) rfl rfl (by kernel_rfl) (by rfl) rfl rfl HC.out.own rfl KB.out (by have := HM.out; omega) hS.size (fun v2 W5 ho hg hk => ⟨hS.trans (below_grown hg hS.size hk), ?_⟩)
          simp only [Act.put, List.setIfInBounds_toArray, List.set_cons_zero, List.set_cons_succ]
          have hS5 := hS.trans (below_grown hg hS.size hk)
          have HC5 := Lib.hid (HC.out.all ho hg)
          clear ho hg hk HC KB hS
          have hS := hS5
          clear hS5
          refine takeCE (i := 5) (some 75) 31 #[v2] (R := fun v' w' => Below W5.heap.size W5 w' ∧ ∃ (t s : Nat) (A : Option Addr) (c : Nat) (S : List Rx) (T : Ts), v' = .tuple #[.pointer (some ⟨t, 0, none⟩), .int .i64 0] ∧ TabAt w' t s (m + 1) A c S T ∧ PermX (m + 1) (addX L0 m (famB pl)) S) rfl rfl (by kernel_rfl) (by rfl) (by go_simp) (build_sure HC5.out (fun j hj => (HB2.out j hj).p) (by have := HM.out; omega) HFO2.out HND2.out) (fun v w' h => hS.trans (h.1.mono hS.size)) (fun v3 W6 h hS2 => ?_)
          obtain ⟨_, t2, s2, A2, c2, S2, T2, rfl, htb, hpm⟩ := h
          simp only [Act.put, List.setIfInBounds_toArray, List.set_cons_zero, List.set_cons_succ]
          have HT2 := Lib.hid htb
          have HP2 := Lib.hid hpm
          clear htb hpm hS HC5
          have hS := hS2
          clear hS2
          refine takeY (i := 6) (some 69) (v := .tuple #[.pointer (some ⟨t2, 0, none⟩), .int .i64 0]) rfl rfl (by kernel_rfl) (by kernel_rfl) (by kernel_rfl) (fun _ _ _ h => h) (by rfl) (fun w' hS => by clear hS; go_simp) hS ?_
          simp only [Act.put, List.setIfInBounds_toArray, List.set_cons_zero, List.set_cons_succ]
          refine takeY (i := 7) (some 76) (v := .pointer (some ⟨t2, 0, none⟩)) rfl rfl (by kernel_rfl) (by kernel_rfl) (by kernel_rfl) (fun _ _ _ h => h) (by rfl) (fun w' hS => by clear hS; go_simp) hS ?_
          simp only [Act.put, List.setIfInBounds_toArray, List.set_cons_zero, List.set_cons_succ]
          refine takeY (i := 8) (some 77) (v := .int .i64 0) rfl rfl (by kernel_rfl) (by kernel_rfl) (by kernel_rfl) (fun _ _ _ h => h) (by rfl) (fun w' hS => by clear hS; go_simp) hS ?_
          simp only [Act.put, List.setIfInBounds_toArray, List.set_cons_zero, List.set_cons_succ]
          refine takeY (i := 9) (some 15) (v := .pointer (some ⟨t2, 0, none⟩)) rfl rfl (by kernel_rfl) (by kernel_rfl) (by kernel_rfl) (fun _ _ _ h => h) (by rfl) (fun w' hS => by clear hS; go_simp) hS ?_
          simp only [Act.put, List.setIfInBounds_toArray, List.set_cons_zero, List.set_cons_succ]
          refine takeY (i := 10) (some 16) (v := .int .i64 0) rfl rfl (by kernel_rfl) (by kernel_rfl) (by kernel_rfl) (fun _ _ _ h => h) (by rfl) (fun w' hS => by clear hS; go_simp) hS ?_
          simp only [Act.put, List.setIfInBounds_toArray, List.set_cons_zero, List.set_cons_succ]
          have HBE := Lib.hid hS
          clear hS
          refine wpAnyH_done (by kernel_rfl) ?_ _
          go_wp2_with fail
          go_meet
          case rel => exact ⟨t2, s2, A2, c2, S2, T2, rfl, rfl, HT2, HP2, HBE⟩
        · have KB0 := Lib.hid kb
          simp only [Act.put, List.setIfInBounds_toArray, List.set_cons_zero, List.set_cons_succ]
          have hS2 := hS.trans (hb.mono hS.size)
          clear kb hb hS HNB
          have hS := hS2
          clear hS2
          refine takeCE (i := 1) (some 71) 30 #[.slice a0 m cap0] (R := fun v w' => ∃ S, Cpy w' wq.heap.size m L0 v S ∧ Below W1.heap.size W1 w') rfl rfl (by kernel_rfl) (by rfl) (by go_simp) ((twin_any L0 a0 m cap0 W1 (HWQ.out _ hS).1 (HWQ.out _ hS).2 (by have := HM.out; omega)).mono (fun e w' h => by obtain ⟨v, S, e1, h2, h3⟩ := h; exact ⟨v, e1, S, h2.mono hS.size, h3⟩)) (fun v w' h => by obtain ⟨_, _, hb⟩ := h; exact hS.trans (hb.mono hS.size)) (fun v1 W2 h hS2 => ?_)
          obtain ⟨S1, hc, hb⟩ := h
          simp only [Act.put, List.setIfInBounds_toArray, List.set_cons_zero, List.set_cons_succ]
          have HC := Lib.hid hc
          have KB := Lib.hid (KB0.out.below hb KB0.out.lt)
          clear hc hb hS KB0
          have hS := hS2
          clear hS2
          refine takeRa (i := 4) (some 74) (.tmp 71) (.tmp 73) rfl rfl (by kernel_rfl) (by rfl) rfl rfl HC.out.own rfl KB.out (by have := HM.out; omega) hS.size (fun v2 W5 ho hg hk => ⟨hS.trans (below_grown hg hS.size hk), ?_⟩)
          simp only [Act.put, List.setIfInBounds_toArray, List.set_cons_zero, List.set_cons_succ]
          have hS5 := hS.trans (below_grown hg hS.size hk)
          have HC5 := Lib.hid (HC.out.all ho hg)
          clear ho hg hk HC KB hS
          have hS := hS5
          clear hS5
          refine takeCE (i := 5) (some 75) 31 #[v2] (R := fun v' w' => Below W5.heap.size W5 w' ∧ ∃ (t s : Nat) (A : Option Addr) (c : Nat) (S : List Rx) (T : Ts), v' = .tuple #[.pointer (some ⟨t, 0, none⟩), .int .i64 0] ∧ TabAt w' t s (m + 1) A c S T ∧ PermX (m + 1) (addX L0 m (famB pl)) S) rfl rfl (by kernel_rfl) (by rfl) (by go_simp) (build_sure HC5.out (fun j hj => (HB2.out j hj).p) (by have := HM.out; omega) HFO2.out HND2.out) (fun v w' h => hS.trans (h.1.mono hS.size)) (fun v3 W6 h hS2 => ?_)
          obtain ⟨_, t2, s2, A2, c2, S2, T2, rfl, htb, hpm⟩ := h
          simp only [Act.put, List.setIfInBounds_toArray, List.set_cons_zero, List.set_cons_succ]
          have HT2 := Lib.hid htb
          have HP2 := Lib.hid hpm
          clear htb hpm hS HC5
          have hS := hS2
          clear hS2
          refine takeY (i := 6) (some 69) (v := .tuple #[.pointer (some ⟨t2, 0, none⟩), .int .i64 0]) rfl rfl (by kernel_rfl) (by kernel_rfl) (by kernel_rfl) (fun _ _ _ h => h) (by rfl) (fun w' hS => by clear hS; go_simp) hS ?_
          simp only [Act.put, List.setIfInBounds_toArray, List.set_cons_zero, List.set_cons_succ]
          refine takeY (i := 7) (some 76) (v := .pointer (some ⟨t2, 0, none⟩)) rfl rfl (by kernel_rfl) (by kernel_rfl) (by kernel_rfl) (fun _ _ _ h => h) (by rfl) (fun w' hS => by clear hS; go_simp) hS ?_
          simp only [Act.put, List.setIfInBounds_toArray, List.set_cons_zero, List.set_cons_succ]
          refine takeY (i := 8) (some 77) (v := .int .i64 0) rfl rfl (by kernel_rfl) (by kernel_rfl) (by kernel_rfl) (fun _ _ _ h => h) (by rfl) (fun w' hS => by clear hS; go_simp) hS ?_
          simp only [Act.put, List.setIfInBounds_toArray, List.set_cons_zero, List.set_cons_succ]
          refine takeY (i := 9) (some 15) (v := .pointer (some ⟨t2, 0, none⟩)) rfl rfl (by kernel_rfl) (by kernel_rfl) (by kernel_rfl) (fun _ _ _ h => h) (by rfl) (fun w' hS => by clear hS; go_simp) hS ?_
          simp only [Act.put, List.setIfInBounds_toArray, List.set_cons_zero, List.set_cons_succ]
          refine takeY (i := 10) (some 16) (v := .int .i64 0) rfl rfl (by kernel_rfl) (by kernel_rfl) (by kernel_rfl) (fun _ _ _ h => h) (by rfl) (fun w' hS => by clear hS; go_simp) hS ?_
          simp only [Act.put, List.setIfInBounds_toArray, List.set_cons_zero, List.set_cons_succ]
          have HBE := Lib.hid hS
          clear hS
          refine wpAnyH_done (by kernel_rfl) ?_ _
          go_wp2_with fail
          go_meet
          case rel => exact ⟨t2, s2, A2, c2, S2, T2, rfl, rfl, HT2, HP2, HBE⟩
      case rest =>
        obtain ⟨t2, s2, A2, c2, S2, T2, rfl, rfl, HT2, HP2, hbc⟩ := hcut
        have b1 := hbc.out
        clear hbc
        have HBn := Lib.hid (HB.out.trans (b1.mono HB.out.size))
        clear HB
        have HB := HBn
        clear HBn
        have K5n := Lib.hid (K5.out.below b1 K5.out.lt)
        clear K5
        have K5 := K5n
        clear K5n
        have HTBn := Lib.hid (HTB.out.below b1)
        clear HTB
        have HTB := HTBn
        clear HTBn
        have HF1n := Lib.hid (HF1.out.below b1)
        clear HF1
        have HF1 := HF1n
        clear HF1n
        have K9n := Lib.hid (K9.out.below b1 K9.out.lt)
        clear K9
        have K9 := K9n
        clear K9n
        have K14n := Lib.hid (K14.out.below b1 K14.out.lt)
        clear K14
        have K14 := K14n
        clear K14n
        clear b1
        go_wp2_with (refine wpList_ld (op := ⟨some 83, _, _, _, _, _⟩) (by rfl) 23 (.tmp 5) rfl N1 0 rfl (agC zz) _ K5.out.all Try.underlying23 rfl (hi_ag zz) ?_; refine Hid.out ?_)
        refine Lib.hid ?_
        go_wp2_with fail
        refine (tfind_P t2 s2 (m + 1) A2 c2 S2 T2 pl zz HX2.out _ HT2.out).mono ?_
        rintro e w15 ⟨bq2, y2, rfl, hq, b1⟩
        have HBn := Lib.hid (HB.out.trans (b1.mono HB.out.size))
        clear HB
        have HB := HBn
        clear HBn
        have K5n := Lib.hid (K5.out.below b1 K5.out.lt)
        clear K5
        have K5 := K5n
        clear K5n
        have HTBn := Lib.hid (HTB.out.below b1)
        clear HTB
        have HTB := HTBn
        clear HTBn
        have HF1n := Lib.hid (HF1.out.below b1)
        clear HF1
        have HF1 := HF1n
        clear HF1n
        have K9n := Lib.hid (K9.out.below b1 K9.out.lt)
        clear K9
        have K9 := K9n
        clear K9n
        have K14n := Lib.hid (K14.out.below b1 K14.out.lt)
        clear K14
        have K14 := K14n
        clear K14n
        have HT2n := Lib.hid (HT2.out.below b1)
        clear HT2
        have HT2 := HT2n
        clear HT2n
        clear b1
        have HF2 := Lib.hid hq
        clear hq
        obtain ⟨NK17, hNK17⟩ : ∃ N, w15.heap.size = N := ⟨_, rfl⟩
        have HNK17 := Lib.hid hNK17
        clear hNK17
        go_wp2_with (refine wpList_new (op := ⟨some 17, _, _, _, _, _⟩) rfl 70 rfl (rxC rx0) zero_rt NK17 HNK17.out ?_; intro w16 k1 b1 s1; refine Hid.out ?_)
        refine Lib.hid ?_
        have KX := Lib.hid k1
        have BX := Lib.hid b1
        clear k1 b1 s1
        go_wp2_with (refine wpList_st rfl 70 (.tmp 17) (.tmp 85) rfl NK17 0 rfl (.agg (rxC y2)) (rxC y2) rfl rfl info_rt (rx_one _) KX.out (Nat.le_of_ble_eq_true rfl) (C' := rxC y2) (rx_over _ _) ?_; intro w17 q1; refine Hid.out ?_)
        refine Lib.hid ?_
        have b1 : Below w15.heap.size w15 w17 := BX.out.trans (q1.2.1 _ (by rw [HNK17.out]; exact Nat.le_refl _))
        have HBn := Lib.hid (HB.out.trans (b1.mono HB.out.size))
        clear HB
        have HB := HBn
        clear HBn
        have K5n := Lib.hid (K5.out.below b1 K5.out.lt)
        clear K5
        have K5 := K5n
        clear K5n
        have HTBn := Lib.hid (HTB.out.below b1)
        clear HTB
        have HTB := HTBn
        clear HTBn
        have HF1n := Lib.hid (HF1.out.below b1)
        clear HF1
        have HF1 := HF1n
        clear HF1n
        have K9n := Lib.hid (K9.out.below b1 K9.out.lt)
        clear K9
        have K9 := K9n
        clear K9n
        have K14n := Lib.hid (K14.out.below b1 K14.out.lt)
        clear K14
        have K14 := K14n
        clear K14n
        have HT2n := Lib.hid (HT2.out.below b1)
        clear HT2
        have HT2 := HT2n
        clear HT2n
        have HF2n := Lib.hid (HF2.out.below b1)
        clear HF2
        have HF2 := HF2n
        clear HF2n
        have K17 : Hid (Blk 70 w17 NK17 (rxC y2)) := Lib.hid q1.1
        clear KX BX q1 b1 HNK17
        obtain ⟨rfl, hrb, e1, e2⟩ := catch_end HTB.out HPM.out HT2.out HP2.out HND2.out HB2.out HF1.out HF2.out
        have HRB2 := Lib.hid hrb
        have E1 := Lib.hid e1
        have E2 := Lib.hid e2
        clear hrb e1 e2
        cases bq with
        | true =>
          go_wp2_with (refine wpList_ld (op := ⟨some 100, _, _, _, _, _⟩) (by rfl) 70 (.tmp 17) rfl NK17 0 rfl (rxC y2) _ K17.out.all Try.underlying70 rfl info_rt ?_; refine Hid.out ?_)
          refine Lib.hid ?_
          go_wp2_with (refine wpList_ld (op := ⟨some 101, _, _, _, _, _⟩) (by rfl) 70 (.tmp 9) rfl NK9 0 rfl (rxC y1) _ K9.out.all Try.underlying70 rfl info_rt ?_; refine Hid.out ?_)
          refine Lib.hid ?_
          go_wp2_with fail
          refine (show Calls Try.prog 35 #[.agg (rxC y2), .agg (rxC y1)] w17 _ from by have h := sameRoute_any y2.r y2.A y1.A y2.c y1.c HRB2.out w17 HF2.out.1 (by rw [E1.out (by first | rfl | trivial)]; exact HF1.out.1); rw [show (⟨y2.r, y1.A, y1.c⟩ : Rx) = y1 by rw [E1.out (by first | rfl | trivial)]] at h; exact h).mono ?_
          rintro e w19 ⟨rfl, b1⟩
          have HBn := Lib.hid (HB.out.trans (b1.mono HB.out.size))
          clear HB
          have HB := HBn
          clear HBn
          have K5n := Lib.hid (K5.out.below b1 K5.out.lt)
          clear K5
          have K5 := K5n
          clear K5n
          have HTBn := Lib.hid (HTB.out.below b1)
          clear HTB
          have HTB := HTBn
          clear HTBn
          have HF1n := Lib.hid (HF1.out.below b1)
          clear HF1
          have HF1 := HF1n
          clear HF1n
          have K9n := Lib.hid (K9.out.below b1 K9.out.lt)
          clear K9
          have K9 := K9n
          clear K9n
          have K14n := Lib.hid (K14.out.below b1 K14.out.lt)
          clear K14
          have K14 := K14n
          clear K14n
          have HT2n := Lib.hid (HT2.out.below b1)
          clear HT2
          have HT2 := HT2n
          clear HT2n
          have HF2n := Lib.hid (HF2.out.below b1)
          clear HF2
          have HF2 := HF2n
          clear HF2n
          have K17n := Lib.hid (K17.out.below b1 K17.out.lt)
          clear K17
          have K17 := K17n
          clear K17n
          clear b1
          go_wp2_with fail
          refine (tlistR_any t2 s2 (m + 1) A2 c2 S2 T2 _ HT2.out).mono ?_
          rintro e w20 ⟨v9, R9, rfl, hc9, b1⟩
          obtain ⟨A9, c9, rfl, h91, h92, h93, h94⟩ := hc9.own.shape (rxB_recs _) (by decide)
          clear hc9 h91 h92 h93 h94
          have HBn := Lib.hid (HB.out.trans (b1.mono HB.out.size))
          clear HB
          have HB := HBn
          clear HBn
          have K5n := Lib.hid (K5.out.below b1 K5.out.lt)
          clear K5
          have K5 := K5n
          clear K5n
          have HTBn := Lib.hid (HTB.out.below b1)
          clear HTB
          have HTB := HTBn
          clear HTBn
          have HF1n := Lib.hid (HF1.out.below b1)
          clear HF1
          have HF1 := HF1n
          clear HF1n
          have K9n := Lib.hid (K9.out.below b1 K9.out.lt)
          clear K9
          have K9 := K9n
          clear K9n
          have K14n := Lib.hid (K14.out.below b1 K14.out.lt)
          clear K14
          have K14 := K14n
          clear K14n
          have HT2n := Lib.hid (HT2.out.below b1)
          clear HT2
          have HT2 := HT2n
          clear HT2n
          have HF2n := Lib.hid (HF2.out.below b1)
          clear HF2
          have HF2 := HF2n
          clear HF2n
          have K17n := Lib.hid (K17.out.below b1 K17.out.lt)
          clear K17
          have K17 := K17n
          clear K17n
          clear b1
          rename_i hK
          refine hK _ _ ?_
          clear hK
          refine wpList_gv (op := ⟨some 117, _, _, _, _, _⟩) (w' := w20) (.int .i64 ((m + 1 : Nat) : Int)) (by rfl) (len_rt _ _ _ rfl A9 (m + 1) c9 rfl _) ?_
          simp only [Act.put, List.setIfInBounds_toArray, List.set_cons_zero, List.set_cons_succ]
          refine wpList_gv (op := ⟨some 118, _, _, _, _, _⟩) (w' := w20) (.slice a0 m cap0) (by rfl) (by go_simp) ?_
          simp only [Act.put, List.setIfInBounds_toArray, List.set_cons_zero, List.set_cons_succ]
          refine wpList_gv (op := ⟨some 119, _, _, _, _, _⟩) (w' := w20) (.int .i64 (m : Int)) (by rfl) (len_rt _ _ _ rfl a0 m cap0 rfl _) ?_
          simp only [Act.put, List.setIfInBounds_toArray, List.set_cons_zero, List.set_cons_succ]
          refine wpList_gv (op := ⟨some 120, _, _, _, _, _⟩) (w' := w20) (.int .i64 ((m + 1 : Nat) : Int)) (by rfl) (add1_rt _ _ _ rfl m (by have := HM.out; omega) rfl rfl _) ?_
          simp only [Act.put, List.setIfInBounds_toArray, List.set_cons_zero, List.set_cons_succ]
          refine wpList_gv (op := ⟨some 121, _, _, _, _, _⟩) (w' := w20) (.bool true) (by rfl) (eqI_run _ _ _ _ _ rfl ((m + 1 : Nat) : Int) rfl rfl _) ?_
          simp only [Act.put, List.setIfInBounds_toArray, List.set_cons_zero, List.set_cons_succ]
          refine wpList_gv (op := ⟨some 122, _, _, _, _, _⟩) (w' := w20) (.bool true) (by rfl) (by go_simp) ?_
          simp only [Act.put, List.setIfInBounds_toArray, List.set_cons_zero, List.set_cons_succ]
          refine wpList_gv (op := ⟨some 6, _, _, _, _, _⟩) (w' := w20) (.bool true) (by rfl) (by go_simp) ?_
          simp only [Act.put, List.setIfInBounds_toArray, List.set_cons_zero, List.set_cons_succ]
          go_wp2
          first | (go_ret; exact ⟨rfl, HB.out⟩) | exact ⟨.bool true, by simp [results, Try.f11, go_sem], rfl, HB.out⟩ | exact bodyPost_ret (v := .bool true) (by simp [results, Try.f11, go_sem]) rfl ⟨rfl, HB.out⟩
        | false =>
          go_wp2_with (refine wpList_ld (op := ⟨some 108, _, _, _, _, _⟩) (by rfl) 70 (.tmp 17) rfl NK17 0 rfl (rxC y2) _ K17.out.all Try.underlying70 rfl info_rt ?_; refine Hid.out ?_)
          refine Lib.hid ?_
          go_wp2_with (refine wpList_ld (op := ⟨some 109, _, _, _, _, _⟩) (by rfl) 70 (.tmp 14) rfl NK14 0 rfl (rxC (xall (famB pl))) _ K14.out.all Try.underlying70 rfl info_rt ?_; refine Hid.out ?_)
          refine Lib.hid ?_
          go_wp2_with fail
          refine (show Calls Try.prog 35 #[.agg (rxC y2), .agg (rxC (xall (famB pl)))] w17 _ from by have h := sameRoute_any y2.r y2.A none y2.c 0 HRB2.out w17 HF2.out.1 (by rw [E2.out (by first | rfl | trivial)]; exact (xall_own w17 0 (famB pl)).at); rw [show (⟨y2.r, none, 0⟩ : Rx) = xall (famB pl) by rw [E2.out (by first | rfl | trivial)]; rfl] at h; exact h).mono ?_
          rintro e w19 ⟨rfl, b1⟩
          have HBn := Lib.hid (HB.out.trans (b1.mono HB.out.size))
          clear HB
          have HB := HBn
          clear HBn
          have K5n := Lib.hid (K5.out.below b1 K5.out.lt)
          clear K5
          have K5 := K5n
          clear K5n
          have HTBn := Lib.hid (HTB.out.below b1)
          clear HTB
          have HTB := HTBn
          clear HTBn
          have HF1n := Lib.hid (HF1.out.below b1)
          clear HF1
          have HF1 := HF1n
          clear HF1n
          have K9n := Lib.hid (K9.out.below b1 K9.out.lt)
          clear K9
          have K9 := K9n
          clear K9n
          have K14n := Lib.hid (K14.out.below b1 K14.out.lt)
          clear K14
          have K14 := K14n
          clear K14n
          have HT2n := Lib.hid (HT2.out.below b1)
          clear HT2
          have HT2 := HT2n
          clear HT2n
          have HF2n := Lib.hid (HF2.out.below b1)
          clear HF2
          have HF2 := HF2n
          clear HF2n
          have K17n := Lib.hid (K17.out.below b1 K17.out.lt)
          clear K17
          have K17 := K17n
          clear K17n
          clear b1
          go_wp2_with fail
          refine (tlistR_any t2 s2 (m + 1) A2 c2 S2 T2 _ HT2.out).mono ?_
          rintro e w20 ⟨v9, R9, rfl, hc9, b1⟩
          obtain ⟨A9, c9, rfl, h91, h92, h93, h94⟩ := hc9.own.shape (rxB_recs _) (by decide)
          clear hc9 h91 h92 h93 h94
          have HBn := Lib.hid (HB.out.trans (b1.mono HB.out.size))
          clear HB
          have HB := HBn
          clear HBn
          have K5n := Lib.hid (K5.out.below b1 K5.out.lt)
          clear K5
          have K5 := K5n
          clear K5n
          have HTBn := Lib.hid (HTB.out.below b1)
          clear HTB
          have HTB := HTBn
          clear HTBn
          have HF1n := Lib.hid (HF1.out.below b1)
          clear HF1
          have HF1 := HF1n
          clear HF1n
          have K9n := Lib.hid (K9.out.below b1 K9.out.lt)
          clear K9
          have K9 := K9n
          clear K9n
          have K14n := Lib.hid (K14.out.below b1 K14.out.lt)
          clear K14
          have K14 := K14n
          clear K14n
          have HT2n := Lib.hid (HT2.out.below b1)
          clear HT2
          have HT2 := HT2n
          clear HT2n
          have HF2n := Lib.hid (HF2.out.below b1)
          clear HF2
          have HF2 := HF2n
          clear HF2n
          have K17n := Lib.hid (K17.out.below b1 K17.out.lt)
          clear K17
          have K17 := K17n
          clear K17n
          clear b1
          rename_i hK
          refine hK _ _ ?_
          clear hK
          refine wpList_gv (op := ⟨some 117, _, _, _, _, _⟩) (w' := w20) (.int .i64 ((m + 1 : Nat) : Int)) (by rfl) (len_rt _ _ _ rfl A9 (m + 1) c9 rfl _) ?_
          simp only [Act.put, List.setIfInBounds_toArray, List.set_cons_zero, List.set_cons_succ]
          refine wpList_gv (op := ⟨some 118, _, _, _, _, _⟩) (w' := w20) (.slice a0 m cap0) (by rfl) (by go_simp) ?_
          simp only [Act.put, List.setIfInBounds_toArray, List.set_cons_zero, List.set_cons_succ]
          refine wpList_gv (op := ⟨some 119, _, _, _, _, _⟩) (w' := w20) (.int .i64 (m : Int)) (by rfl) (len_rt _ _ _ rfl a0 m cap0 rfl _) ?_
          simp only [Act.put, List.setIfInBounds_toArray, List.set_cons_zero, List.set_cons_succ]
          refine wpList_gv (op := ⟨some 120, _, _, _, _, _⟩) (w' := w20) (.int .i64 ((m + 1 : Nat) : Int)) (by rfl) (add1_rt _ _ _ rfl m (by have := HM.out; omega) rfl rfl _) ?_
          simp only [Act.put, List.setIfInBounds_toArray, List.set_cons_zero, List.set_cons_succ]
          refine wpList_gv (op := ⟨some 121, _, _, _, _, _⟩) (w' := w20) (.bool true) (by rfl) (eqI_run _ _ _ _ _ rfl ((m + 1 : Nat) : Int) rfl rfl _) ?_
          simp only [Act.put, List.setIfInBounds_toArray, List.set_cons_zero, List.set_cons_succ]
          refine wpList_gv (op := ⟨some 122, _, _, _, _, _⟩) (w' := w20) (.bool true) (by rfl) (by go_simp) ?_
          simp only [Act.put, List.setIfInBounds_toArray, List.set_cons_zero, List.set_cons_succ]
          refine wpList_gv (op := ⟨some 6, _, _, _, _, _⟩) (w' := w20) (.bool true) (by rfl) (by go_simp) ?_
          simp only [Act.put, List.setIfInBounds_toArray, List.set_cons_zero, List.set_cons_succ]
          go_wp2
          first | (go_ret; exact ⟨rfl, HB.out⟩) | exact ⟨.bool true, by simp [results, Try.f11, go_sem], rfl, HB.out⟩ | exact bodyPost_ret (v := .bool true) (by simp [results, Try.f11, go_sem]) rfl ⟨rfl, HB.out⟩
end Go.Proofs.Ytldgfjcdlkbngaa
