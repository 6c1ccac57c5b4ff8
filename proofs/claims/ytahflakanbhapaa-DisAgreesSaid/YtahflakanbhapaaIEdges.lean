/- dis.Edges: what the pseudonode tells. Each theorem states its conditions. -/
import Derived.Test.YtahflakanbhapaaIUps
namespace Go.Proofs.Ytahflakanbhapaa
open Go.RowKit
set_option linter.unusedVariables false

/-- an edge to a name -/
def egC (z : Nat → Int) : Array Value := #[.int .u8 (z 0), .int .u8 (z 1), .int .u8 (z 2), .int .u8 (z 3), .int .u8 (z 4), .int .u8 (z 5), .int .u8 0, .int .u32 0]
def egA (S : List By) : Nat → Array Value := fun j => egC (S[j]?.getD default).1
theorem egC_ones (z : Nat → Int) : ∀ u ∈ (egC z).toList, u.oneCell' = true := by
  intro u hu
  simp only [egC, List.mem_cons, List.not_mem_nil, or_false] at hu
  rcases hu with rfl | rfl | rfl | rfl | rfl | rfl | rfl | rfl <;> rfl
theorem egC_one (z : Nat → Int) : (egC z).all (·.oneCell') = true := by kernel_rfl
theorem recs_eg (S : List By) : Recs 8 (egA S) := fun j => ⟨rfl, egC_ones _⟩
theorem egA_at (S : List By) (j : Nat) (x : By) (h : S[j]? = some x) : egA S j = egC x.1 := by unfold egA; rw [h]; rfl
theorem eg_six {w : World} {b o : Nat} {z : Nat → Int} (h : w.rangeAt b o (egC z).toList) : w.rangeAt b o (syC z).toList := by
  intro j v hj
  have hj6 : j < 6 := by
    rcases Nat.lt_or_ge j 6 with h | h
    · exact h
    · rw [List.getElem?_eq_none (by show 6 ≤ j; exact h)] at hj; cases hj
  refine h j v ?_
  rcases (by omega : j = 0 ∨ j = 1 ∨ j = 2 ∨ j = 3 ∨ j = 4 ∨ j = 5) with rfl | rfl | rfl | rfl | rfl | rfl <;> exact hj
theorem eg_snoc (S : List By) (k : Nat) (x : By) (h : S[k]? = some x) : ∀ j, j < k + 1 → catR (egA S) k (fun _ => egC x.1) j = egA S j := by
  intro j hj
  unfold catR
  split
  · rfl
  · rw [show j = k by omega, egA_at S k x h]
theorem bs_ed (W : World) (o : Oper) (e : Operand → Value) {x : Operand} (ho : o.op = .buildSlice 31 1 #[(0, x)]) (z : Nat → Int) (h : e x = .agg (egC z)) :
    (execOp e o).run Try.prog W = .ok (.value (.slice (some ⟨W.heap.size, 0, none⟩) 1 1)) (W.alloc (.cells (egC z) 58)) := by
  unfold execOp
  simp only [ho]
  simp only [List.map_toArray, List.map_cons, List.map_nil, h]
  kernel_rfl
def ndC (z : Nat → Int) : Array Value := #[.int .u8 (z 0), .int .u8 (z 1), .int .u8 (z 2), .int .u8 (z 3), .int .u8 (z 4), .int .u8 (z 5), .int .u8 0]
theorem build_nd (W : World) (o : Oper) (e : Operand → Value) {x : Operand} (ho : o.op = .build 55 #[(0, x)]) (z : Nat → Int) (h : e x = .agg (syC z)) :
    (execOp e o).run Try.prog W = .ok (.value (.agg (ndC z))) W := by
  unfold execOp
  simp only [ho]
  simp only [List.map_toArray, List.map_cons, List.map_nil, h]
  kernel_rfl
theorem build_eg (W : World) (o : Oper) (e : Operand → Value) {x : Operand} (ho : o.op = .build 58 #[(0, x)]) (z : Nat → Int) (h : e x = .agg (ndC z)) :
    (execOp e o).run Try.prog W = .ok (.value (.agg (egC z))) W := by
  unfold execOp
  simp only [ho]
  simp only [List.map_toArray, List.map_cons, List.map_nil, h]
  kernel_rfl
theorem infoA_ed : (Try.prog.info? 58).map (fun i => (i.zero, i.size, i.bytes)) = some (some (.agg (egC z0)), 8, 12) := by kernel_rfl
/-- two of the first k stand side by side and are alike -/
def Strict (S : List By) (k : Nat) : Prop := ∀ i, i + 1 < k → nmB (S[i]?.getD default) < nmB (S[i + 1]?.getD default)
def Twin2 (S : List By) : Prop := ∃ i, i + 1 < S.length ∧ nmB (S[i]?.getD default) = nmB (S[i + 1]?.getD default)
/-- what Edges answers, if the members may be -/
def EdgR (L : Nat → Mb) (hOk : ∀ j, MbOk (L j)) (n : Nat) (w' : World) (base : Nat) (v : Value) (r : Int) : Prop :=
  ∃ S, S.Perm (upl L hOk n) ∧ Asc S ∧ ((Twin2 S ∧ v = .slice none 0 0 ∧ r = 3) ∨ (Strict S S.length ∧ r = 0 ∧ OwnR w' base 58 8 v S.length (egA S)))
def EdgP (L : Nat → Mb) (hOk : ∀ j, MbOk (L j)) (n : Nat) (w : World) (e : Ending) (w' : World) : Prop :=
  ∃ v r k, e = .returned (.tuple #[v, .int .i64 r]) ∧ chkM L n k ∧ ((k ≠ 0 ∧ r = k ∧ v = .slice none 0 0) ∨ (k = 0 ∧ EdgR L hOk n w' w.heap.size v r)) ∧ Below w.heap.size w w'
theorem strict_next {S : List By} {k : Nat} (h : Strict S (k + 1)) (ha : Asc S) (hk : k + 1 < S.length) (hne : eq6 (S[k + 1]?.getD default).1 (S[k]?.getD default).1 = false) : Strict S (k + 1 + 1) := by
  intro i hi
  by_cases e : i = k
  · subst e
    have h1 := ha i (i + 1) (by omega) hk
    have h2 : ¬ nmB (S[i + 1]?.getD default) = nmB (S[i]?.getD default) := by
      intro e
      unfold eq6 at hne
      unfold nmB at e
      rw [e] at hne
      simp at hne
    omega
  · exact h i (by omega)
set_option maxHeartbeats 8000000 in
set_option maxRecDepth 100000 in
theorem edges_any (A : Option Addr) (n c : Nat) (L : Nat → Mb) (w : World) (hR : RdR w A n 14 (mbA L)) (hOk : ∀ j, MbOk (L j)) (hn : n * 14 ≤ 140737488351232) :
    Calls Try.prog 11 #[.slice A n c] w (EdgP L hOk n w) := by
  have HRR := Lib.hid hR
  have hml : maxLen = 9223372036854775807 := rfl
  have HML := Lib.hid hml
  clear hml
  go_enter Try.func11, Try.ntmps11
  go_wp2_with fail
  refine (check_any A n c L w hR (by omega)).mono ?_
  rintro e wa ⟨r, rfl, hr, hb⟩
  have HC := Lib.hid hr
  have HB := Lib.hid hb
  clear hR hb
  by_cases h0 : r = 0
  rotate_left
  · have hq : (r != 0) = true := by simp [h0]
    have H0 := Lib.hid h0
    clear h0
    go_wp2_with fail
    go_ret2
    exact ⟨_, r, r, rfl, HC.out, .inl ⟨H0.out, rfl, rfl⟩, HB.out⟩
  subst h0
  have hn64 : n ≤ 64 := by
    rcases hr with ⟨_, h⟩ | ⟨_, ⟨_, h⟩ | ⟨h, _⟩⟩
    · omega
    · omega
    · exact h
  clear hr
  go_wp2_with fail
  refine (ups_any A n c L wa (HRR.out.below HB.out rfl) hOk (by omega)).mono ?_
  rintro e w5 ⟨v, S, rfl, ho, hp, ha, hb⟩
  have HP := Lib.hid hp
  have HA := Lib.hid ha
  have hSl : S.length ≤ 64 := by have := hp.length_eq; have := upl_len L hOk n; omega
  obtain ⟨A5, c5, rfl, hc5, hm5, hA5, hrd⟩ := ho.shape (recs_by S) (by decide)
  have HN := Lib.hid hrd
  have HB5 := Lib.hid (HB.out.trans (hb.mono HB.out.size))
  rw [HML.out] at hm5
  obtain ⟨m, hm⟩ : ∃ m, S.length = m := ⟨_, rfl⟩
  have HM := Lib.hid hm
  rw [hm] at hc5 hrd HN hSl ⊢
  clear ho hp ha hb hrd hm hA5
  go_wp2_with fail
  go_loopw [5, 16] (fun s t wr => ∃ k : Nat, k ≤ m ∧ t = .int .i64 k ∧ Hid (OwnR wr w5.heap.size 58 8 s k (egA S)) ∧ Hid (Strict S k) ∧ Hid (Below w5.heap.size w5 wr)) (fun _ t _ => m - (intOf t).toNat)
  case atStart => exact ⟨0, by omega, rfl, Lib.hid (OwnR.nil _ _ _ _ _), Lib.hid (fun i hi => absurd hi (by omega)), Lib.hid (Below.refl _ _)⟩
  case round =>
    obtain ⟨k, hk, rfl, HO, HS, HW⟩ := hrel
    by_cases hlt : k < m
    rotate_left
    · obtain rfl : k = m := by omega
      have HF : Hid (Below w.heap.size w wr) := Lib.hid (HB5.out.trans (HW.out.mono HB5.out.size))
      go_wp2_with fail
      go_ret2
      refine ⟨_, 0, 0, rfl, HC.out, .inr ⟨rfl, S, HP.out, HA.out, .inr ⟨by rw [HM.out]; exact HS.out, rfl, ?_⟩⟩, HF.out⟩
      rw [HM.out]
      exact ownsRow_mono HO.out HB5.out.size
    have hki : (k : Int) < (m : Int) := by omega
    obtain ⟨b, off, rfl, hrow⟩ := HN.out.row (by omega)
    have HRow := Lib.hid hrow
    obtain ⟨x, hx⟩ : ∃ x, S[k]? = some x := ⟨_, List.getElem?_eq_getElem (by rw [HM.out]; exact hlt)⟩
    have HXk := Lib.hid hx
    clear hrow hx
    by_cases hk0 : k = 0
    · have k0 : ¬ (0 : Int) < (k : Int) := by omega
      have HK0 := Lib.hid hk0
      clear hk0
      have HX := Lib.hid (Below.refl wr.heap.size wr)
      have h1 : Hid (wr.rangeAt b (off + k * 6) (syC x.1).toList) := Lib.hid (by have h9 := rangeAt_below (HRow.out.2 k hlt) HW.out HRow.out.1; rw [byA_at S k x HXk.out] at h9; exact h9)
      go_wp2_with (refine wpList_ld (op := ⟨some 20, _, _, _, _, _⟩) (by rfl) 37 (.tmp 19) rfl b (off + k * 6) rfl (syC x.1) _ h1.out Try.underlying37 rfl info_sys ?_; refine Hid.out ?_)
      refine Lib.hid ?_
      clear h1
      obtain ⟨N1, hN1⟩ : ∃ N, wr.heap.size = N := ⟨_, rfl⟩
      have HN1 := Lib.hid hN1
      clear hN1
      go_wp2_with (refine wpList_new (op := ⟨some 7, _, _, _, _, _⟩) rfl 37 rfl (syC z0) zero_sys N1 HN1.out ?_; intro w1 k1 b1 s1; refine Hid.out ?_)
      refine Lib.hid ?_
      have K7 := Lib.hid k1
      clear k1
      have le_HW_N1 : w5.heap.size ≤ N1 := by rw [← HN1.out]; exact HW.out.size
      have le_HX_N1 : wr.heap.size ≤ N1 := by rw [← HN1.out]; exact HX.out.size
      have HWn := Lib.hid (HW.out.trans (b1.mono HW.out.size))
      clear HW
      have HW := HWn
      clear HWn
      have HXn := Lib.hid (HX.out.trans (b1.mono HX.out.size))
      clear HX
      have HX := HXn
      clear HXn
      clear b1 HN1
      go_wp2_with (refine wpList_st rfl 37 (.tmp 7) (.tmp 20) rfl N1 0 rfl (.agg (syC x.1)) (syC x.1) rfl rfl info_sys (syC_one _) K7.out (Nat.le_of_ble_eq_true rfl) (C' := syC x.1) (by kernel_rfl) ?_; intro w2 q1; refine Hid.out ?_)
      refine Lib.hid ?_
      have HWn := Lib.hid (HW.out.trans (q1.2.1 _ (by omega)))
      clear HW
      have HW := HWn
      clear HWn
      have HXn := Lib.hid (HX.out.trans (q1.2.1 _ (by omega)))
      clear HX
      have HX := HXn
      clear HXn
      have K7n : Hid (Blk 37 w2 N1 (syC x.1)) := Lib.hid q1.1
      clear K7
      have K7 := K7n
      clear K7n q1
      go_wp2_with fail
      refine wp_region_held_drew (S := fun w' => Blk 37 w' N1 (syC x.1) ∧ Below w5.heap.size w5 w' ∧ Below wr.heap.size wr w') (by kernel_rfl) ⟨K7.out, HW.out.drew, HX.out.drew⟩ (fun hS => ?_)
      generalize hW3 : w2.drew = W3 at hS ⊢
      clear hW3
      clear K7
      clear HW
      clear HX
      have K7 := Lib.hid hS.1
      have HW := Lib.hid hS.2.1
      have HX := Lib.hid hS.2.2
      refine takeY (i := 0) (some 21) (v := .int .i64 (k : Int)) rfl rfl (by kernel_rfl) (by kernel_rfl) (by kernel_rfl) (fun _ _ _ h => h) (by rfl) (fun w' hS => by go_simp) hS ?_
      simp only [Act.put, List.setIfInBounds_toArray, List.set_cons_zero, List.set_cons_succ]
      refine takeY (i := 1) (some 22) (v := .bool false) rfl rfl (by kernel_rfl) (by kernel_rfl) (by kernel_rfl) (fun _ _ _ h => h) (by rfl) (fun w' hS => by (clear hS; have e9 := HK0.out; go_simp)) hS ?_
      simp only [Act.put, List.setIfInBounds_toArray, List.set_cons_zero, List.set_cons_succ]
      refine takeY (i := 2) (some 23) (v := .bool false) rfl rfl (by kernel_rfl) (by kernel_rfl) (by kernel_rfl) (fun _ _ _ h => h) (by rfl) (fun w' hS => by go_simp) hS ?_
      simp only [Act.put, List.setIfInBounds_toArray, List.set_cons_zero, List.set_cons_succ]
      refine takeN (i := 3) (some 24) rfl rfl (by kernel_rfl) (by kernel_rfl) (by kernel_rfl) (fun _ _ _ h => h) (by rfl) hS ?_
      simp only [Act.put, List.setIfInBounds_toArray, List.set_cons_zero, List.set_cons_succ]
      refine takeN (i := 4) (some 25) rfl rfl (by kernel_rfl) (by kernel_rfl) (by kernel_rfl) (fun _ _ _ h => h) (by rfl) hS ?_
      simp only [Act.put, List.setIfInBounds_toArray, List.set_cons_zero, List.set_cons_succ]
      refine takeN (i := 5) (some 26) rfl rfl (by kernel_rfl) (by kernel_rfl) (by kernel_rfl) (fun _ _ _ h => h) (by rfl) hS ?_
      simp only [Act.put, List.setIfInBounds_toArray, List.set_cons_zero, List.set_cons_succ]
      refine takeN (i := 6) (some 27) rfl rfl (by kernel_rfl) (by kernel_rfl) (by kernel_rfl) (fun _ _ _ h => h) (by rfl) hS ?_
      simp only [Act.put, List.setIfInBounds_toArray, List.set_cons_zero, List.set_cons_succ]
      refine takeN (i := 7) (some 28) rfl rfl (by kernel_rfl) (by kernel_rfl) (by kernel_rfl) (fun _ _ _ h => h) (by rfl) hS ?_
      simp only [Act.put, List.setIfInBounds_toArray, List.set_cons_zero, List.set_cons_succ]
      refine takeN (i := 8) (some 29) rfl rfl (by kernel_rfl) (by kernel_rfl) (by kernel_rfl) (fun _ _ _ h => h) (by rfl) hS ?_
      simp only [Act.put, List.setIfInBounds_toArray, List.set_cons_zero, List.set_cons_succ]
      refine takeN (i := 9) (some 30) rfl rfl (by kernel_rfl) (by kernel_rfl) (by kernel_rfl) (fun _ _ _ h => h) (by rfl) hS ?_
      simp only [Act.put, List.setIfInBounds_toArray, List.set_cons_zero, List.set_cons_succ]
      refine takeN (i := 10) (some 31) rfl rfl (by kernel_rfl) (by kernel_rfl) (by kernel_rfl) (fun _ _ _ h => h) (by rfl) hS ?_
      simp only [Act.put, List.setIfInBounds_toArray, List.set_cons_zero, List.set_cons_succ]
      refine takeN (i := 11) (some 32) rfl rfl (by kernel_rfl) (by kernel_rfl) (by kernel_rfl) (fun _ _ _ h => h) (by rfl) hS ?_
      simp only [Act.put, List.setIfInBounds_toArray, List.set_cons_zero, List.set_cons_succ]
      refine takeY (i := 12) (some 33) (v := .bool false) rfl rfl (by kernel_rfl) (by kernel_rfl) (by kernel_rfl) (fun _ _ _ h => h) (by rfl) (fun w' hS => by go_simp) hS ?_
      simp only [Act.put, List.setIfInBounds_toArray, List.set_cons_zero, List.set_cons_succ]
      clear hS
      refine wpAnyH_done (by kernel_rfl) ?_ _
      go_wp2_with (refine wpList_ld (op := ⟨some 35, _, _, _, _, _⟩) (by rfl) 37 (.tmp 7) rfl N1 0 rfl (syC x.1) _ K7.out.all Try.underlying37 rfl info_sys ?_; refine Hid.out ?_)
      refine Lib.hid ?_
      go_wp2_with (refine wpList_v (op := ⟨some 36, _, _, _, _, _⟩) rfl (.agg (ndC x.1)) (build_nd _ _ _ rfl x.1 rfl) ?_; refine Hid.out ?_)
      refine Lib.hid ?_
      go_wp2_with (refine wpList_v (op := ⟨some 37, _, _, _, _, _⟩) rfl (.agg (egC x.1)) (build_eg _ _ _ rfl x.1 rfl) ?_; refine Hid.out ?_)
      refine Lib.hid ?_
      obtain ⟨N4, hN4⟩ : ∃ N, W3.heap.size = N := ⟨_, rfl⟩
      have HN4 := Lib.hid hN4
      clear hN4
      go_wp2_with (refine wpList_bs (op := ⟨some 38, _, _, _, _, _⟩) rfl 58 (egC x.1) (bs_ed _ _ _ rfl x.1 rfl) N4 HN4.out ?_; intro w4 k1 b1 s1; refine Hid.out ?_)
      refine Lib.hid ?_
      have K38 := Lib.hid k1
      clear k1
      have lt_N1_N4 : N1 < N4 := by rw [← HN4.out]; exact K7.out.lt
      have le_HW_N4 : w5.heap.size ≤ N4 := by rw [← HN4.out]; exact HW.out.size
      have le_HX_N4 : wr.heap.size ≤ N4 := by rw [← HN4.out]; exact HX.out.size
      have K7n := Lib.hid (K7.out.below b1 K7.out.lt)
      clear K7
      have K7 := K7n
      clear K7n
      have HWn := Lib.hid (HW.out.trans (b1.mono HW.out.size))
      clear HW
      have HW := HWn
      clear HWn
      have HXn := Lib.hid (HX.out.trans (b1.mono HX.out.size))
      clear HX
      have HX := HXn
      clear HXn
      clear b1 HN4
      have HO5 := Lib.hid (HO.out.below HX.out)
      have HRD : Hid (RdR w4 (some ⟨N4, 0, none⟩) 1 8 (fun _ => egC x.1)) := Lib.hid (rdR_blk K38.out)
      go_wp2_with (at_builtin; refine app_X 31 58 8 12 _ Try.underlying31 infoA_ed rfl (by decide) rfl (.tmp 34) (.tmp 38) rfl w5 _ k (egA S) rfl HO5.out HW.out ⟨N4, 0, none⟩ 1 1 (fun _ => egC x.1) rfl HRD.out (fun _ => ⟨rfl, egC_ones _⟩) (by rw [HML.out]; omega) (by omega) ?_; intro v9 w9 ho9 hb9 hk9 hs9; refine Hid.out ?_)
      refine Lib.hid ?_
      have HO9 : Hid (OwnR w9 w5.heap.size 58 8 v9 (k + 1) (egA S)) := Lib.hid (OwnR.congr ho9 (eg_snoc S _ x HXk.out))
      have HW9 := Lib.hid hb9
      clear ho9 hb9 hk9 hs9 HO5 HRD
      go_wp2_with fail
      go_roundw
      case rel => exact ⟨k + 1, by omega, by go_num, HO9, Lib.hid (fun i hi => absurd hi (by have := HK0.out; omega)), HW9⟩
      case measure => simp only [intOf]; omega
    · have hpos : 0 < k := by omega
      clear hk0
      obtain ⟨k', rfl⟩ : ∃ k', k = k' + 1 := ⟨k - 1, by omega⟩
      obtain ⟨A2, c2, rfl, hc2, hm2, _, hrd2⟩ := HO.out.shape (recs_eg S) (by decide)
      obtain ⟨b2, off2, rfl, hrow2⟩ := hrd2.row (by omega)
      have HR2 := Lib.hid hrow2
      obtain ⟨y, hy⟩ : ∃ y, S[k']? = some y := ⟨_, List.getElem?_eq_getElem (by rw [HM.out]; omega)⟩
      have HYk := Lib.hid hy
      rw [HML.out] at hm2
      obtain ⟨q, hq⟩ : ∃ q, eq6 x.1 y.1 = q := ⟨_, rfl⟩
      have HQ := Lib.hid hq
      clear hrd2 hrow2 hy hq
      obtain ⟨kk, hkk⟩ : ∃ kk, k' + 1 = kk := ⟨_, rfl⟩
      have HKK := Lib.hid hkk
      have HKi : Hid ((kk : Int) - 1 = (k' : Int)) := Lib.hid (by omega)
      have hk0 : 0 < (kk : Int) := by omega
      have hk'i : (k' : Int) < (kk : Int) := by omega
      rw [hkk] at HO HS hlt hki HXk hc2 hpos hk ⊢
      clear hkk
      have HX := Lib.hid (Below.refl wr.heap.size wr)
      have h1 : Hid (wr.rangeAt b (off + kk * 6) (syC x.1).toList) := Lib.hid (by have h9 := rangeAt_below (HRow.out.2 kk hlt) HW.out HRow.out.1; rw [byA_at S kk x HXk.out] at h9; exact h9)
      go_wp2_with (refine wpList_ld (op := ⟨some 20, _, _, _, _, _⟩) (by rfl) 37 (.tmp 19) rfl b (off + kk * 6) rfl (syC x.1) _ h1.out Try.underlying37 rfl info_sys ?_; refine Hid.out ?_)
      refine Lib.hid ?_
      clear h1
      obtain ⟨N1, hN1⟩ : ∃ N, wr.heap.size = N := ⟨_, rfl⟩
      have HN1 := Lib.hid hN1
      clear hN1
      go_wp2_with (refine wpList_new (op := ⟨some 7, _, _, _, _, _⟩) rfl 37 rfl (syC z0) zero_sys N1 HN1.out ?_; intro w1 k1 b1 s1; refine Hid.out ?_)
      refine Lib.hid ?_
      have K7 := Lib.hid k1
      clear k1
      have le_HW_N1 : w5.heap.size ≤ N1 := by rw [← HN1.out]; exact HW.out.size
      have le_HX_N1 : wr.heap.size ≤ N1 := by rw [← HN1.out]; exact HX.out.size
      have HWn := Lib.hid (HW.out.trans (b1.mono HW.out.size))
      clear HW
      have HW := HWn
      clear HWn
      have HXn := Lib.hid (HX.out.trans (b1.mono HX.out.size))
      clear HX
      have HX := HXn
      clear HXn
      clear b1 HN1
      go_wp2_with (refine wpList_st rfl 37 (.tmp 7) (.tmp 20) rfl N1 0 rfl (.agg (syC x.1)) (syC x.1) rfl rfl info_sys (syC_one _) K7.out (Nat.le_of_ble_eq_true rfl) (C' := syC x.1) (by kernel_rfl) ?_; intro w2 q1; refine Hid.out ?_)
      refine Lib.hid ?_
      have HWn := Lib.hid (HW.out.trans (q1.2.1 _ (by omega)))
      clear HW
      have HW := HWn
      clear HWn
      have HXn := Lib.hid (HX.out.trans (q1.2.1 _ (by omega)))
      clear HX
      have HX := HXn
      clear HXn
      have K7n : Hid (Blk 37 w2 N1 (syC x.1)) := Lib.hid q1.1
      clear K7
      have K7 := K7n
      clear K7n q1
      go_wp2_with fail
      refine wp_region_held_drew (S := fun w' => Blk 37 w' N1 (syC x.1) ∧ Below w5.heap.size w5 w' ∧ Below wr.heap.size wr w') (by kernel_rfl) ⟨K7.out, HW.out.drew, HX.out.drew⟩ (fun hS => ?_)
      generalize hW3 : w2.drew = W3 at hS ⊢
      clear hW3
      clear K7
      clear HW
      clear HX
      have K7 := Lib.hid hS.1
      have HW := Lib.hid hS.2.1
      have HX := Lib.hid hS.2.2
      refine takeY (i := 0) (some 21) (v := .int .i64 (kk : Int)) rfl rfl (by kernel_rfl) (by kernel_rfl) (by kernel_rfl) (fun _ _ _ h => h) (by rfl) (fun w' hS => by go_simp) hS ?_
      simp only [Act.put, List.setIfInBounds_toArray, List.set_cons_zero, List.set_cons_succ]
      refine takeY (i := 1) (some 22) (v := .bool true) rfl rfl (by kernel_rfl) (by kernel_rfl) (by kernel_rfl) (fun _ _ _ h => h) (by rfl) (fun w' hS => by (clear hS; go_simp)) hS ?_
      simp only [Act.put, List.setIfInBounds_toArray, List.set_cons_zero, List.set_cons_succ]
      refine takeY (i := 2) (some 23) (v := .bool true) rfl rfl (by kernel_rfl) (by kernel_rfl) (by kernel_rfl) (fun _ _ _ h => h) (by rfl) (fun w' hS => by go_simp) hS ?_
      simp only [Act.put, List.setIfInBounds_toArray, List.set_cons_zero, List.set_cons_succ]
      refine takeL (i := 3) (some 24) 37 (.tmp 7) N1 0 (syC x.1) _ rfl rfl (by kernel_rfl) (by kernel_rfl) (by kernel_rfl) (fun _ _ _ h => h) (by rfl) rfl rfl (fun w' hS => hS.1.all) Try.underlying37 rfl info_sys hS ?_
      simp only [Act.put, List.setIfInBounds_toArray, List.set_cons_zero, List.set_cons_succ]
      refine takeY (i := 4) (some 25) (v := .slice (some ⟨b2, off2, none⟩) kk c2) rfl rfl (by kernel_rfl) (by kernel_rfl) (by kernel_rfl) (fun _ _ _ h => h) (by rfl) (fun w' hS => by go_simp) hS ?_
      simp only [Act.put, List.setIfInBounds_toArray, List.set_cons_zero, List.set_cons_succ]
      refine takeY (i := 5) (some 26) (v := .int .i64 (kk : Int)) rfl rfl (by kernel_rfl) (by kernel_rfl) (by kernel_rfl) (fun _ _ _ h => h) (by rfl) (fun w' hS => by go_simp) hS ?_
      simp only [Act.put, List.setIfInBounds_toArray, List.set_cons_zero, List.set_cons_succ]
      refine takeY (i := 6) (some 27) (v := (.int .i64 (k' : Int))) rfl rfl (by kernel_rfl) (by kernel_rfl) (by kernel_rfl) (fun _ _ _ h => h) (by rfl) (fun w' hS => by (clear hS; have e9 := HKi.out; go_simp; simp [IntKind.wrap, IntKind.bits, IntKind.signed]; omega)) hS ?_
      simp only [Act.put, List.setIfInBounds_toArray, List.set_cons_zero, List.set_cons_succ]
      refine takeY (i := 7) (some 28) (v := (.pointer (some ⟨b2, off2 + k' * 8, none⟩))) rfl rfl (by kernel_rfl) (by kernel_rfl) (by kernel_rfl) (fun _ _ _ h => h) (by rfl) (fun w' hS => by (clear hS; go_simp)) hS ?_
      simp only [Act.put, List.setIfInBounds_toArray, List.set_cons_zero, List.set_cons_succ]
      refine takeY (i := 8) (some 29) (v := (.pointer (some ⟨b2, off2 + k' * 8, none⟩))) rfl rfl (by kernel_rfl) (by kernel_rfl) (by kernel_rfl) (fun _ _ _ h => h) (by rfl) (fun w' hS => by (clear hS; go_simp)) hS ?_
      simp only [Act.put, List.setIfInBounds_toArray, List.set_cons_zero, List.set_cons_succ]
      refine takeY (i := 9) (some 30) (v := (.pointer (some ⟨b2, off2 + k' * 8, none⟩))) rfl rfl (by kernel_rfl) (by kernel_rfl) (by kernel_rfl) (fun _ _ _ h => h) (by rfl) (fun w' hS => by (clear hS; go_simp)) hS ?_
      simp only [Act.put, List.setIfInBounds_toArray, List.set_cons_zero, List.set_cons_succ]
      refine takeL (i := 10) (some 31) 37 (.tmp 30) b2 (off2 + k' * 8) (syC y.1) _ rfl rfl (by kernel_rfl) (by kernel_rfl) (by kernel_rfl) (fun _ _ _ h => h) (by rfl) rfl rfl (fun w' hS => by have h9 := rangeAt_below (HR2.out.2 k' (by omega)) hS.2.2 HR2.out.1; rw [egA_at S k' y HYk.out] at h9; exact eg_six h9) Try.underlying37 rfl info_sys hS ?_
      simp only [Act.put, List.setIfInBounds_toArray, List.set_cons_zero, List.set_cons_succ]
      refine takeY (i := 11) (some 32) (v := .bool q) rfl rfl (by kernel_rfl) (by kernel_rfl) (by kernel_rfl) (fun _ _ _ h => h) (by rfl) (fun w' hS => by exact eql6 _ _ _ _ 37 _ rfl rfl guard_sys Try.underlying37 x.1 y.1 x.2 y.2 rfl rfl q HQ.out _) hS ?_
      simp only [Act.put, List.setIfInBounds_toArray, List.set_cons_zero, List.set_cons_succ]
      refine takeY (i := 12) (some 33) (v := .bool q) rfl rfl (by kernel_rfl) (by kernel_rfl) (by kernel_rfl) (fun _ _ _ h => h) (by rfl) (fun w' hS => by go_simp) hS ?_
      simp only [Act.put, List.setIfInBounds_toArray, List.set_cons_zero, List.set_cons_succ]
      clear hS
      refine wpAnyH_done (by kernel_rfl) ?_ _
      cases q
      · skip
        go_wp2_with (refine wpList_ld (op := ⟨some 35, _, _, _, _, _⟩) (by rfl) 37 (.tmp 7) rfl N1 0 rfl (syC x.1) _ K7.out.all Try.underlying37 rfl info_sys ?_; refine Hid.out ?_)
        refine Lib.hid ?_
        go_wp2_with (refine wpList_v (op := ⟨some 36, _, _, _, _, _⟩) rfl (.agg (ndC x.1)) (build_nd _ _ _ rfl x.1 rfl) ?_; refine Hid.out ?_)
        refine Lib.hid ?_
        go_wp2_with (refine wpList_v (op := ⟨some 37, _, _, _, _, _⟩) rfl (.agg (egC x.1)) (build_eg _ _ _ rfl x.1 rfl) ?_; refine Hid.out ?_)
        refine Lib.hid ?_
        obtain ⟨N4, hN4⟩ : ∃ N, W3.heap.size = N := ⟨_, rfl⟩
        have HN4 := Lib.hid hN4
        clear hN4
        go_wp2_with (refine wpList_bs (op := ⟨some 38, _, _, _, _, _⟩) rfl 58 (egC x.1) (bs_ed _ _ _ rfl x.1 rfl) N4 HN4.out ?_; intro w4 k1 b1 s1; refine Hid.out ?_)
        refine Lib.hid ?_
        have K38 := Lib.hid k1
        clear k1
        have lt_N1_N4 : N1 < N4 := by rw [← HN4.out]; exact K7.out.lt
        have le_HW_N4 : w5.heap.size ≤ N4 := by rw [← HN4.out]; exact HW.out.size
        have le_HX_N4 : wr.heap.size ≤ N4 := by rw [← HN4.out]; exact HX.out.size
        have K7n := Lib.hid (K7.out.below b1 K7.out.lt)
        clear K7
        have K7 := K7n
        clear K7n
        have HWn := Lib.hid (HW.out.trans (b1.mono HW.out.size))
        clear HW
        have HW := HWn
        clear HWn
        have HXn := Lib.hid (HX.out.trans (b1.mono HX.out.size))
        clear HX
        have HX := HXn
        clear HXn
        clear b1 HN4
        have HO5 := Lib.hid (HO.out.below HX.out)
        have HRD : Hid (RdR w4 (some ⟨N4, 0, none⟩) 1 8 (fun _ => egC x.1)) := Lib.hid (rdR_blk K38.out)
        go_wp2_with (at_builtin; refine app_X 31 58 8 12 _ Try.underlying31 infoA_ed rfl (by decide) rfl (.tmp 34) (.tmp 38) rfl w5 _ kk (egA S) rfl HO5.out HW.out ⟨N4, 0, none⟩ 1 1 (fun _ => egC x.1) rfl HRD.out (fun _ => ⟨rfl, egC_ones _⟩) (by rw [HML.out]; omega) (by omega) ?_; intro v9 w9 ho9 hb9 hk9 hs9; refine Hid.out ?_)
        refine Lib.hid ?_
        have HO9 : Hid (OwnR w9 w5.heap.size 58 8 v9 (kk + 1) (egA S)) := Lib.hid (OwnR.congr ho9 (eg_snoc S _ x HXk.out))
        have HW9 := Lib.hid hb9
        clear ho9 hb9 hk9 hs9 HO5 HRD
        go_wp2_with fail
        go_roundw
        case rel => exact ⟨kk + 1, by omega, by go_num, HO9, Lib.hid (by have h9 := HS.out; have e9 := HKK.out; have hl := HM.out; have hx := HXk.out; subst e9; exact strict_next h9 HA.out (by omega) (by rw [hx, HYk.out]; exact HQ.out)), HW9⟩
        case measure => simp only [intOf]; omega
      · skip
        have HF : Hid (Below w.heap.size w W3) := Lib.hid (HB5.out.trans (HW.out.mono HB5.out.size))
        go_wp2_with fail
        go_ret2
        refine ⟨_, 3, 0, rfl, HC.out, .inr ⟨rfl, S, HP.out, HA.out, .inl ⟨⟨k', by have := HM.out; have := HKK.out; omega, ?_⟩, rfl, rfl⟩⟩, HF.out⟩
        have h9 := HQ.out
        have hx := HXk.out
        rw [← HKK.out] at hx
        rw [hx, HYk.out]
        unfold eq6 at h9
        exact (eq_of_beq h9).symm
end Go.Proofs.Ytahflakanbhapaa
