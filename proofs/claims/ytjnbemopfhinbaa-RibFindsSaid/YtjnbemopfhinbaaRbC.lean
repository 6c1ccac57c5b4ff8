/- Copies of routes: copyOf, copyAll, Twin. Each theorem states its conditions. -/
import Derived.Test.YtjnbemopfhinbaaRbV
namespace Go.Proofs.Ytjnbemopfhinbaa
open Go.RowKit
set_option linter.unusedVariables false
set_option linter.unusedSimpArgs false

/-- a copy of n routes in memory of the call's own -/
structure Cpy (w : World) (B n : Nat) (X : Nat → Rx) (v : Value) (S : List Rx) : Prop where
  len : S.length = n
  same : ∀ j, j < n → (S.getD j rx0).r = (X j).r
  own : OwnR w B 70 21 v n (rxB S)
  hop : ∀ y, y ∈ S → HopOwn w B y
theorem Cpy.nil (w : World) (B : Nat) (X : Nat → Rx) : Cpy w B 0 X (.slice none 0 0) [] := ⟨rfl, fun j h => by omega, OwnR.nil _ _ _ _ _, fun y hy => by cases hy⟩
theorem Cpy.below {w w' : World} {B n : Nat} {X : Nat → Rx} {v : Value} {S : List Rx} (h : Cpy w B n X v S) (hb : Below w.heap.size w w') : Cpy w' B n X v S := ⟨h.len, h.same, h.own.below hb, fun y hy => (h.hop y hy).below hb⟩
theorem Cpy.mono {w : World} {B B' n : Nat} {X : Nat → Rx} {v : Value} {S : List Rx} (h : Cpy w B n X v S) (hb : B' ≤ B) : Cpy w B' n X v S := ⟨h.len, h.same, h.own.mono hb, fun y hy => (h.hop y hy).mono hb⟩
theorem Cpy.snoc {w w' : World} {B n : Nat} {X : Nat → Rx} {v v' : Value} {S : List Rx} {y : Rx} (h : Cpy w B n X v S) (hy : HopOwn w B y) (hr : y.r = (X n).r) (ho : OwnR w' B 70 21 v' (n + 1) (catR (rxB S) n (fun _ => rxC y))) (hg : w.grownBy w' v.ownBlock) : Cpy w' B (n + 1) X v' (S ++ [y]) := by
  have hl := h.len
  refine ⟨by rw [List.length_append, hl]; rfl, fun j hj => ?_, ?_, fun q hq => ?_⟩
  · rw [List.getD_eq_getElem?_getD]
    by_cases h9 : j < n
    · rw [List.getElem?_append_left (by omega), ← List.getD_eq_getElem?_getD]; exact h.same j h9
    · have e : j = n := by omega
      subst e
      rw [← hl, List.getElem?_append_right (Nat.le_refl _), Nat.sub_self]
      rw [← hl] at hr
      exact hr
  · subst hl
    exact ho.congr fun j hj => rx_snoc S y j hj
  · have key : ∀ q, HopOwn w B q → HopOwn w' B q := fun q hq => ⟨hq.1.typR h.own (by decide) hg, hq.2⟩
    rcases List.mem_append.1 hq with hq | hq
    · exact key q (h.hop q hq)
    · rw [List.mem_singleton.1 hq]; exact key y hy
section
variable {ops : Array Oper} {Q : Exit → Act → World → Prop} {rest : List Oper} {op : Oper} {a : Act} {w : World}
theorem wpList_bs0 (hgd : op.guard = none) (t : TypeId) (hx : (execOp a.eval op).run Try.prog w = .ok (.value (.slice (some ⟨w.heap.size, 0, none⟩) 0 0)) (w.alloc (.cells #[] t))) (N : Nat) (hN : w.heap.size = N)
    (h : ∀ w', Blk t w' N #[] → Below w.heap.size w w' → wpList Try.prog ops Q rest (a.put op.dst (.slice (some ⟨N, 0, none⟩) 0 0)) w') : wpList Try.prog ops Q (op :: rest) a w := by
  subst hN
  exact wpList_v hgd _ hx (h _ (heap_alloc_new w _) ((Below.refl _ _).alloc (Nat.le_refl _) _))
end
theorem Cpy.st5 {w w' : World} {B n g : Nat} {X : Nat → Rx} {v : Value} {S : List Rx} {D E : Array Value} (h : Cpy w B n X v S) (hne : ∀ k, v.ownBlock = some k → k ≠ g) (hb : Blk 70 w g E) (q : Stored w w' g D 70) : Cpy w' B n X v S := by
  refine ⟨h.len, h.same, ?_, fun y hy => ⟨(h.hop y hy).1.stR hb (by decide) q, (h.hop y hy).2⟩⟩
  rcases h.own with ⟨o1, o2 | ⟨g9, cap9, cur9, o2, o3, o4, rest⟩⟩
  · exact ⟨o1, .inl o2⟩
  · exact ⟨o1, .inr ⟨g9, cap9, cur9, o2, o3, (q.2.2 g9 (hne g9 (by rw [o2]; rfl))).trans o4, rest⟩⟩
theorem rx_read {w w' : World} {bA off m j B : Nat} {X : Nat → Rx} (hr : RowR w bA off m 21 (fun j => rxC (X j))) (hb : Below B w w') (hB : bA < B) (hj : j < m) : w'.rangeAt bA (off + j * 21) (rxC (X j)).toList := rangeAt_below (hr.2 j hj) hb hB
set_option maxHeartbeats 16000000 in
set_option maxRecDepth 100000 in
theorem copyOf_any (x : Rx) (w : World) (hx : HopAt w x) : Calls Try.prog 66 #[.agg (rxC x)] w fun e w' => ∃ y : Rx, e = .returned (.agg (rxC y)) ∧ y.r = x.r ∧ HopOwn w' w.heap.size y ∧ Below w.heap.size w w' := by
  have HX := Lib.hid hx
  clear hx
  go_enter Try.func66, Try.ntmps66
  have HB := Lib.hid (Below.refl w.heap.size w)
  obtain ⟨N1, hN1⟩ : ∃ N, w.heap.size = N := ⟨_, rfl⟩
  have HN1 := Lib.hid hN1
  clear hN1
  go_wp2_with (refine wpList_box (op := ⟨some 1, _, _, _, _, _⟩) rfl 70 (.tmp 0) rfl (rxC x) rfl N1 HN1.out ?_; intro w1 k1 b1 s1; refine Hid.out ?_)
  refine Lib.hid ?_
  have K1 := Lib.hid k1
  clear k1
  have le_HB_N1 : w.heap.size ≤ N1 := by rw [← HN1.out]; exact HB.out.size
  have HBn := Lib.hid (HB.out.trans (b1.mono HB.out.size))
  clear HB
  have HB := HBn
  clear HBn
  clear b1 HN1
  obtain ⟨N2, hN2⟩ : ∃ N, w1.heap.size = N := ⟨_, rfl⟩
  have HN2 := Lib.hid hN2
  clear hN2
  go_wp2_with (refine wpList_new (op := ⟨some 2, _, _, _, _, _⟩) rfl 70 rfl (rxC rx0) zero_rt N2 HN2.out ?_; intro w2 k1 b1 s1; refine Hid.out ?_)
  refine Lib.hid ?_
  have K2 := Lib.hid k1
  clear k1
  have lt_N1_N2 : N1 < N2 := by rw [← HN2.out]; exact K1.out.lt
  have le_HB_N2 : w.heap.size ≤ N2 := by rw [← HN2.out]; exact HB.out.size
  have K1n := Lib.hid (K1.out.below b1 K1.out.lt)
  clear K1
  have K1 := K1n
  clear K1n
  have HBn := Lib.hid (HB.out.trans (b1.mono HB.out.size))
  clear HB
  have HB := HBn
  clear HBn
  clear b1 HN2
  have HXw := Lib.hid (HX.out.below HB.out)
  have c20 : w2.cell? ⟨N1, 20, none⟩ = some (.slice x.A x.r.n x.c) := (K1.out.cell 20).trans rfl
  go_wp2_with (refine wpList_happ (o := ⟨some 5, _, _, _, _, _⟩) (.const (.slice none 0 0)) (.tmp 4) rfl rfl w2.heap.size (.slice none 0 0) 0 (fun j => hopC (x.r.h j)) rfl (OwnR.nil _ _ _ _ _) x.A x.r.n x.c (fun j => hopC (x.r.h j)) rfl HXw.out.nl HXw.out.rd (recs_hop _) (by have := HXw.out.le; omega) (Nat.le_refl _) ?_; intro v3 w3 o1 b1; refine Hid.out ?_)
  refine Lib.hid ?_
  clear c20
  obtain ⟨A2, c2, rfl, ho⟩ := hop_of o1 HXw.out.le
  have HO := Lib.hid ho
  have HWS : Hid (w.heap.size ≤ w2.heap.size) := Lib.hid HB.out.size
  clear o1 ho HXw
  have K1n := Lib.hid (K1.out.below b1 K1.out.lt)
  clear K1
  have K1 := K1n
  clear K1n
  have K2n := Lib.hid (K2.out.below b1 K2.out.lt)
  clear K2
  have K2 := K2n
  clear K2n
  have HBn := Lib.hid (HB.out.trans (b1.mono HB.out.size))
  clear HB
  have HB := HBn
  clear HBn
  clear b1
  have K1o := Lib.hid K1.out
  go_wp2_with (refine wpList_st rfl 68 (.tmp 6) (.tmp 5) rfl N1 20 rfl (.slice A2 x.r.n c2) (#[.slice A2 x.r.n c2]) rfl rfl info_lh one_lh K1.out (Nat.le_of_ble_eq_true rfl) (C' := rxC ⟨x.r, A2, c2⟩) (rx_put _ _ _) ?_; intro w4 q1; refine Hid.out ?_)
  refine Lib.hid ?_
  have HOn : Hid (HopOwn w4 w2.heap.size ⟨x.r, A2, c2⟩) := Lib.hid ⟨HO.out.1.stR K1o.out (by decide) q1, HO.out.2⟩
  clear HO K1o
  have HO := HOn
  clear HOn
  have K2n := Lib.hid (K2.out.far q1 (by omega))
  clear K2
  have K2 := K2n
  clear K2n
  have HBn := Lib.hid (HB.out.trans (q1.2.1 _ (by omega)))
  clear HB
  have HB := HBn
  clear HBn
  have K1n : Hid (Blk 70 w4 N1 (rxC ⟨x.r, A2, c2⟩)) := Lib.hid q1.1
  clear K1
  have K1 := K1n
  clear K1n q1
  go_wp2_with (refine wpList_ld (op := ⟨some 7, _, _, _, _, _⟩) (by rfl) 70 (.tmp 1) rfl N1 0 rfl (rxC ⟨x.r, A2, c2⟩) _ K1.out.all Try.underlying70 rfl info_rt ?_; refine Hid.out ?_)
  refine Lib.hid ?_
  have K2o := Lib.hid K2.out
  go_wp2_with (refine wpList_st rfl 70 (.tmp 2) (.tmp 7) rfl N2 0 rfl (.agg (rxC ⟨x.r, A2, c2⟩)) (rxC ⟨x.r, A2, c2⟩) rfl rfl info_rt (rx_one _) K2.out (Nat.le_of_ble_eq_true rfl) (C' := rxC ⟨x.r, A2, c2⟩) (rx_over _ _) ?_; intro w3 q1; refine Hid.out ?_)
  refine Lib.hid ?_
  have HOn : Hid (HopOwn w3 w2.heap.size ⟨x.r, A2, c2⟩) := Lib.hid ⟨HO.out.1.stR K2o.out (by decide) q1, HO.out.2⟩
  clear HO K2o
  have HO := HOn
  clear HOn
  have K1n := Lib.hid (K1.out.far q1 (by omega))
  clear K1
  have K1 := K1n
  clear K1n
  have HBn := Lib.hid (HB.out.trans (q1.2.1 _ (by omega)))
  clear HB
  have HB := HBn
  clear HBn
  have K2n : Hid (Blk 70 w3 N2 (rxC ⟨x.r, A2, c2⟩)) := Lib.hid q1.1
  clear K2
  have K2 := K2n
  clear K2n q1
  go_wp2_with fail
  exact bodyPost_ret (results_1 rfl _ _ N2 (rxC ⟨x.r, A2, c2⟩) Try.underlying70 rfl info_rt rfl K2.out) rfl ⟨⟨x.r, A2, c2⟩, rfl, rfl, HO.out.mono HWS.out, HB.out⟩
set_option maxHeartbeats 16000000 in
set_option maxRecDepth 100000 in
theorem copyAll_any (X : Nat → Rx) (A : Option Addr) (n c : Nat) (w : World) (hr : RdR w A n 21 (fun j => rxC (X j))) (hh : ∀ j, j < n → HopAt w (X j)) (hn : n ≤ 1000) : Calls Try.prog 61 #[.slice A n c] w fun e w' => ∃ v S, e = .returned v ∧ Cpy w' w.heap.size n X v S ∧ Below w.heap.size w w' := by
  have HR := Lib.hid hr
  have HH := Lib.hid hh
  have HN := Lib.hid hn
  have hnI : (n : Int) ≤ 9223372036854775807 := by omega
  obtain ⟨BL, hBL⟩ : ∃ N, w.heap.size = N := ⟨_, rfl⟩
  have HBL := Lib.hid hBL
  clear hr hh hn hBL
  rw [HBL.out]
  go_enter Try.func61, Try.ntmps61
  go_wp2_with fail
  go_loopw [3, 8] (fun v t wr => ∃ (j : Nat) (S : List Rx), j ≤ n ∧ t = .int .i64 j ∧ Hid (Cpy wr BL j X v S) ∧ Hid (Below BL w wr)) (fun _ t _ => n - (intOf t).toNat)
  case atStart => exact ⟨0, [], by omega, rfl, Lib.hid (Cpy.nil _ _ _), Lib.hid (Below.refl _ _)⟩
  case round =>
    obtain ⟨j, S, hj, rfl, HC, HQ⟩ := hrel
    by_cases hlt : j < n
    · have hki : (j : Int) < (n : Int) := by omega
      have HLT := Lib.hid hlt
      obtain ⟨bA, off, rfl, hr⟩ := HR.out.row (by omega)
      have h1 : Hid (wr.rangeAt bA (off + j * 21) (rxC (X j)).toList) := Lib.hid (rx_read hr HQ.out (by have := hr.1; rw [HBL.out] at this; exact this) hlt)
      clear hr
      have HXJ : Hid (HopAt wr (X j)) := Lib.hid ((HH.out j hlt).below (by rw [HBL.out]; exact HQ.out))
      go_wp2_with (refine wpList_ld (op := ⟨some 11, _, _, _, _, _⟩) (by rfl) 70 (.tmp 10) rfl bA (off + j * 21) rfl (rxC (X j)) _ h1.out Try.underlying70 rfl info_rt ?_; refine Hid.out ?_)
      refine Lib.hid ?_
      clear h1
      obtain ⟨N5, hN5⟩ : ∃ N, wr.heap.size = N := ⟨_, rfl⟩
      have HN5 := Lib.hid hN5
      have le_5 : BL ≤ N5 := by rw [← hN5]; have := HQ.out.size; rw [HBL.out] at this; exact this
      clear hN5
      go_wp2_with (refine wpList_new (op := ⟨some 5, _, _, _, _, _⟩) rfl 70 rfl (rxC rx0) zero_rt N5 HN5.out ?_; intro w5 k1 b1 s9; refine Hid.out ?_)
      refine Lib.hid ?_
      have K5 := Lib.hid k1
      have HB1 := Lib.hid b1
      clear k1 b1 s9
      go_wp2_with (refine wpList_st rfl 70 (.tmp 5) (.tmp 11) rfl N5 0 rfl (.agg (rxC (X j))) (rxC (X j)) rfl rfl info_rt (rx_one _) K5.out (Nat.le_of_ble_eq_true rfl) (C' := rxC (X j)) (rx_over _ _) ?_; intro w6 q1; refine Hid.out ?_)
      refine Lib.hid ?_
      have b1 : Below wr.heap.size wr w6 := HB1.out.trans (q1.2.1 _ (by rw [HN5.out]; exact Nat.le_refl _))
      have K5n : Hid (Blk 70 w6 N5 (rxC (X j))) := Lib.hid q1.1
      clear K5
      have K5 := K5n
      clear K5n q1 HB1 HN5
      have HCn := Lib.hid (HC.out.below b1)
      clear HC
      have HC := HCn
      clear HCn
      have HQn := Lib.hid (HQ.out.trans (b1.mono (by have := HQ.out.size; rw [HBL.out] at this; exact this)))
      clear HQ
      have HQ := HQn
      clear HQn
      have HXJn := Lib.hid (HXJ.out.below b1)
      clear HXJ
      have HXJ := HXJn
      clear HXJn
      clear b1
      go_wp2_with (refine wpList_ld (op := ⟨some 13, _, _, _, _, _⟩) (by rfl) 70 (.tmp 5) rfl N5 0 rfl (rxC (X j)) _ K5.out.all Try.underlying70 rfl info_rt ?_; refine Hid.out ?_)
      refine Lib.hid ?_
      go_wp2_with fail
      refine (copyOf_any (X j) w6 HXJ.out).mono ?_
      rintro e w7 ⟨y, rfl, hy, ho, b1⟩
      have hz : BL ≤ w6.heap.size := by have := HQ.out.size; rw [HBL.out] at this; exact this
      have HY := Lib.hid (ho.mono hz)
      have HYR := Lib.hid hy
      clear ho hy hz
      have HCn := Lib.hid (HC.out.below b1)
      clear HC
      have HC := HCn
      clear HCn
      have HQn := Lib.hid (HQ.out.trans (b1.mono (by have := HQ.out.size; rw [HBL.out] at this; exact this)))
      clear HQ
      have HQ := HQn
      clear HQn
      clear b1 K5 HXJ
      obtain ⟨P1, hP1⟩ : ∃ N, w7.heap.size = N := ⟨_, rfl⟩
      have HP1 := Lib.hid hP1
      clear hP1
      go_wp2_with (refine wpList_bs (op := ⟨some 15, _, _, _, _, _⟩) rfl 70 (rxC y) (bs_rt _ _ _ rfl y rfl) P1 HP1.out ?_; intro wa k1 b1 s9; refine Hid.out ?_)
      refine Lib.hid ?_
      have HRR : Hid (RdR wa (some ⟨P1, 0, none⟩) 1 21 (fun _ => rxC y)) := Lib.hid (rdR_blk k1)
      clear k1 s9
      have HCn := Lib.hid (HC.out.below b1)
      clear HC
      have HC := HCn
      clear HCn
      have HQn := Lib.hid (HQ.out.trans (b1.mono (by have := HQ.out.size; rw [HBL.out] at this; exact this)))
      clear HQ
      have HQ := HQn
      clear HQn
      have HYn := Lib.hid (HY.out.below b1)
      clear HY
      have HY := HYn
      clear HYn
      clear b1 HP1
      have HZ : Hid (BL ≤ wa.heap.size) := Lib.hid (by have := HQ.out.size; rw [HBL.out] at this; exact this)
      go_wp2_with (refine app_Y (o := ⟨some 16, _, _, _, _, _⟩) 60 70 21 72 (.agg (rxC rx0)) Try.underlying60 info_rtE rfl (by decide) rfl (.tmp 12) (.tmp 15) rfl BL _ j (rxB S) rfl HC.out.own HZ.out ⟨P1, 0, none⟩ 1 1 (fun _ => rxC y) rfl HRR.out (recs_rx (fun _ => y)) (by have := HLT.out; have := HN.out; unfold maxLen; omega) (by have := HLT.out; have := HN.out; omega) ?_; intro vb wb ho9 hg9 hk9; refine Hid.out ?_)
      refine Lib.hid ?_
      have HCn := Lib.hid (HC.out.snoc HY.out HYR.out ho9 hg9)
      have HQn := Lib.hid (HQ.out.trans (below_grown hg9 HZ.out hk9))
      clear HQ
      have HQ := HQn
      clear HQn
      clear HC HY HYR ho9 hg9 hk9 HRR HZ
      go_wp2_with fail
      go_roundw
      case rel => exact ⟨j + 1, S ++ [y], HLT.out, by go_num, HCn, HQ⟩
      case measure => have := HLT.out; simp only [intOf]; omega
    · obtain rfl : n = j := by omega
      go_wp2_with fail
      go_ret
      exact ⟨_, S, rfl, HC.out, HQ.out⟩
set_option maxHeartbeats 16000000 in
set_option maxRecDepth 100000 in
theorem twin_any (X : Nat → Rx) (A : Option Addr) (n c : Nat) (w : World) (hr : RdR w A n 21 (fun j => rxC (X j))) (hh : ∀ j, j < n → HopAt w (X j)) (hn : n ≤ 1000) : Calls Try.prog 30 #[.slice A n c] w fun e w' => ∃ v S, e = .returned v ∧ Cpy w' w.heap.size n X v S ∧ Below w.heap.size w w' := by
  have HR := Lib.hid hr
  have HH := Lib.hid hh
  have HN := Lib.hid hn
  have hnI : (n : Int) ≤ 9223372036854775807 := by omega
  obtain ⟨BL, hBL⟩ : ∃ N, w.heap.size = N := ⟨_, rfl⟩
  have HBL := Lib.hid hBL
  clear hr hh hn hBL
  rw [HBL.out]
  go_enter Try.func30, Try.ntmps30
  go_wp2_with fail
  go_loopw [3, 8] (fun v t wr => ∃ (j : Nat) (S : List Rx), j ≤ n ∧ t = .int .i64 j ∧ Hid (Cpy wr BL j X v S) ∧ Hid (Below BL w wr)) (fun _ t _ => n - (intOf t).toNat)
  case atStart => exact ⟨0, [], by omega, rfl, Lib.hid (Cpy.nil _ _ _), Lib.hid (Below.refl _ _)⟩
  case round =>
    obtain ⟨j, S, hj, rfl, HC, HQ⟩ := hrel
    by_cases hlt : j < n
    · have hki : (j : Int) < (n : Int) := by omega
      have HLT := Lib.hid hlt
      obtain ⟨bA, off, rfl, hr⟩ := HR.out.row (by omega)
      have h1 : Hid (wr.rangeAt bA (off + j * 21) (rxC (X j)).toList) := Lib.hid (rx_read hr HQ.out (by have := hr.1; rw [HBL.out] at this; exact this) hlt)
      clear hr
      have HXJ : Hid (HopAt wr (X j)) := Lib.hid ((HH.out j hlt).below (by rw [HBL.out]; exact HQ.out))
      go_wp2_with (refine wpList_ld (op := ⟨some 11, _, _, _, _, _⟩) (by rfl) 70 (.tmp 10) rfl bA (off + j * 21) rfl (rxC (X j)) _ h1.out Try.underlying70 rfl info_rt ?_; refine Hid.out ?_)
      refine Lib.hid ?_
      clear h1
      obtain ⟨N5, hN5⟩ : ∃ N, wr.heap.size = N := ⟨_, rfl⟩
      have HN5 := Lib.hid hN5
      have le_5 : BL ≤ N5 := by rw [← hN5]; have := HQ.out.size; rw [HBL.out] at this; exact this
      clear hN5
      have HNE := Lib.hid (fun k e => Nat.ne_of_lt (Nat.lt_of_lt_of_eq ((HC.out.own.lt k e).2) HN5.out))
      go_wp2_with (refine wpList_new (op := ⟨some 5, _, _, _, _, _⟩) rfl 70 rfl (rxC rx0) zero_rt N5 HN5.out ?_; intro w5 k1 b1 s9; refine Hid.out ?_)
      refine Lib.hid ?_
      have K5 := Lib.hid k1
      have HB1 := Lib.hid b1
      clear k1 b1 s9
      go_wp2_with (refine wpList_st rfl 70 (.tmp 5) (.tmp 11) rfl N5 0 rfl (.agg (rxC (X j))) (rxC (X j)) rfl rfl info_rt (rx_one _) K5.out (Nat.le_of_ble_eq_true rfl) (C' := rxC (X j)) (rx_over _ _) ?_; intro w6 q1; refine Hid.out ?_)
      refine Lib.hid ?_
      have b1 : Below wr.heap.size wr w6 := HB1.out.trans (q1.2.1 _ (by rw [HN5.out]; exact Nat.le_refl _))
      have K5n : Hid (Blk 70 w6 N5 (rxC (X j))) := Lib.hid q1.1
      clear K5
      have K5 := K5n
      clear K5n q1 HB1 HN5
      have HCn := Lib.hid (HC.out.below b1)
      clear HC
      have HC := HCn
      clear HCn
      have HQn := Lib.hid (HQ.out.trans (b1.mono (by have := HQ.out.size; rw [HBL.out] at this; exact this)))
      clear HQ
      have HQ := HQn
      clear HQn
      have HXJn := Lib.hid (HXJ.out.below b1)
      clear HXJ
      have HXJ := HXJn
      clear HXJn
      clear b1
      obtain ⟨N12, hN12⟩ : ∃ N, w6.heap.size = N := ⟨_, rfl⟩
      have HN12 := Lib.hid hN12
      clear hN12
      go_wp2_with (refine wpList_bs0 (op := ⟨some 12, _, _, _, _, _⟩) rfl 74 (bs_h0 _ _ _ rfl) N12 HN12.out ?_; intro w7 k1 b1; refine Hid.out ?_)
      refine Lib.hid ?_
      have HE := Lib.hid (own_h0 k1 (fun i => hopC ((X j).r.h i)))
      have hz : BL ≤ w6.heap.size := by have := HQ.out.size; rw [HBL.out] at this; exact this
      have HZ12 : Hid (BL ≤ N12) := Lib.hid (by rw [← HN12.out]; exact hz)
      have ne5 : N5 < N12 := by rw [← HN12.out]; exact K5.out.lt
      have hs12 : Hid (N12 ≤ w7.heap.size) := Lib.hid (Nat.le_of_lt k1.lt)
      clear k1 hz
      have HB67 := Lib.hid b1
      have HXJn := Lib.hid (HXJ.out.below b1)
      clear HXJ
      have HXJ := HXJn
      clear HXJn
      have K57 := Lib.hid (K5.out.below b1 K5.out.lt)
      clear b1
      have c20 : w7.cell? ⟨N5, 20, none⟩ = some (.slice (X j).A (X j).r.n (X j).c) := (K57.out.cell 20).trans rfl
      go_wp2_with (refine wpList_happ (o := ⟨some 15, _, _, _, _, _⟩) (.tmp 12) (.tmp 14) rfl rfl N12 (.slice (some ⟨N12, 0, none⟩) 0 0) 0 (fun i => hopC ((X j).r.h i)) rfl HE.out (X j).A (X j).r.n (X j).c (fun i => hopC ((X j).r.h i)) rfl HXJ.out.nl HXJ.out.rd (recs_hop _) (by have := HXJ.out.le; omega) hs12.out ?_; intro v8 w8 o1 b1; refine Hid.out ?_)
      refine Lib.hid ?_
      clear c20 HE
      obtain ⟨A2, c2, rfl, ho⟩ := hop_of o1 HXJ.out.le
      have HY := Lib.hid ho
      clear o1 ho
      have b68 : Below w6.heap.size w6 w8 := HB67.out.trans (b1.mono (by rw [HN12.out]; exact Nat.le_refl _))
      have HCn := Lib.hid (HC.out.below b68)
      clear HC
      have HC := HCn
      clear HCn
      have HQn := Lib.hid (HQ.out.trans (b68.mono (by have := HQ.out.size; rw [HBL.out] at this; exact this)))
      clear HQ
      have HQ := HQn
      clear HQn
      have K5n := Lib.hid (K5.out.below b68 K5.out.lt)
      clear K5
      have K5 := K5n
      clear K5n
      clear b1 b68 HB67 K57 hs12 HXJ
      go_wp2_with (refine wpList_st rfl 68 (.tmp 16) (.tmp 15) rfl N5 20 rfl (.slice A2 (X j).r.n c2) (#[.slice A2 (X j).r.n c2]) rfl rfl info_lh one_lh K5.out (Nat.le_of_ble_eq_true rfl) (C' := rxC ⟨(X j).r, A2, c2⟩) (rx_put _ _ _) ?_; intro w9 q1; refine Hid.out ?_)
      refine Lib.hid ?_
      have HYn : Hid (HopOwn w9 N12 ⟨(X j).r, A2, c2⟩) := Lib.hid ⟨HY.out.1.stR K5.out (by decide) q1, HY.out.2⟩
      clear HY
      have HY := Lib.hid (HYn.out.mono HZ12.out)
      clear HYn
      have HC9 := Lib.hid (HC.out.st5 HNE.out K5.out q1)
      clear HC
      have HC := HC9
      clear HC9
      have HQn := Lib.hid (HQ.out.trans (q1.2.1 _ le_5))
      clear HQ
      have HQ := HQn
      clear HQn
      have K5n : Hid (Blk 70 w9 N5 (rxC ⟨(X j).r, A2, c2⟩)) := Lib.hid q1.1
      clear K5
      have K5 := K5n
      clear K5n q1 HZ12
      obtain ⟨y, hy⟩ : ∃ y : Rx, (⟨(X j).r, A2, c2⟩ : Rx) = y := ⟨_, rfl⟩
      have HYR : Hid (y.r = (X j).r) := Lib.hid (by rw [← hy])
      rw [hy] at HY K5
      clear hy
      go_wp2_with (refine wpList_ld (op := ⟨some 18, _, _, _, _, _⟩) (by rfl) 70 (.tmp 5) rfl N5 0 rfl (rxC y) _ K5.out.all Try.underlying70 rfl info_rt ?_; refine Hid.out ?_)
      refine Lib.hid ?_
      clear K5
      obtain ⟨P1, hP1⟩ : ∃ N, w9.heap.size = N := ⟨_, rfl⟩
      have HP1 := Lib.hid hP1
      clear hP1
      go_wp2_with (refine wpList_bs (op := ⟨some 19, _, _, _, _, _⟩) rfl 70 (rxC y) (bs_rt _ _ _ rfl y rfl) P1 HP1.out ?_; intro wa k1 b1 s9; refine Hid.out ?_)
      refine Lib.hid ?_
      have HRR : Hid (RdR wa (some ⟨P1, 0, none⟩) 1 21 (fun _ => rxC y)) := Lib.hid (rdR_blk k1)
      clear k1 s9
      have HCn := Lib.hid (HC.out.below b1)
      clear HC
      have HC := HCn
      clear HCn
      have HQn := Lib.hid (HQ.out.trans (b1.mono (by have := HQ.out.size; rw [HBL.out] at this; exact this)))
      clear HQ
      have HQ := HQn
      clear HQn
      have HYn := Lib.hid (HY.out.below b1)
      clear HY
      have HY := HYn
      clear HYn
      clear b1 HP1
      have HZ : Hid (BL ≤ wa.heap.size) := Lib.hid (by have := HQ.out.size; rw [HBL.out] at this; exact this)
      go_wp2_with (refine app_Y (o := ⟨some 20, _, _, _, _, _⟩) 60 70 21 72 (.agg (rxC rx0)) Try.underlying60 info_rtE rfl (by decide) rfl (.tmp 17) (.tmp 19) rfl BL _ j (rxB S) rfl HC.out.own HZ.out ⟨P1, 0, none⟩ 1 1 (fun _ => rxC y) rfl HRR.out (recs_rx (fun _ => y)) (by have := HLT.out; have := HN.out; unfold maxLen; omega) (by have := HLT.out; have := HN.out; omega) ?_; intro vb wb ho9 hg9 hk9; refine Hid.out ?_)
      refine Lib.hid ?_
      have HCn := Lib.hid (HC.out.snoc HY.out HYR.out ho9 hg9)
      have HQn := Lib.hid (HQ.out.trans (below_grown hg9 HZ.out hk9))
      clear HQ
      have HQ := HQn
      clear HQn
      clear HC HY HYR ho9 hg9 hk9 HRR HZ
      go_wp2_with fail
      go_roundw
      case rel => exact ⟨j + 1, S ++ [y], HLT.out, by go_num, HCn, HQ⟩
      case measure => have := HLT.out; simp only [intOf]; omega
    · obtain rfl : n = j := by omega
      go_wp2_with fail
      go_ret
      exact ⟨_, S, rfl, HC.out, HQ.out⟩
end Go.Proofs.Ytjnbemopfhinbaa
