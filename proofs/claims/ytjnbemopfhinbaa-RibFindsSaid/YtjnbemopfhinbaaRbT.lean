/- A table's calls: of, Find, List. Each theorem states its conditions. -/
import Derived.Test.YtjnbemopfhinbaaRbC
import Derived.Test.YtjnbemopfhinbaaTrQz
import Derived.Test.YtjnbemopfhinbaaTrQd
namespace Go.Proofs.Ytjnbemopfhinbaa
open Go.RowKit
set_option linter.unusedVariables false
set_option linter.unusedSimpArgs false

theorem bld_rt0 (o : Oper) (e : Operand → Value) (ho : o.op = .build 70 #[]) (W : World) : (execOp e o).run Try.prog W = .ok (.value (.agg (rxC rx0))) W := by
  unfold execOp
  simp only [ho]
  kernel_rfl
theorem neqE_run (o : Oper) (e : Operand → Value) (x : Operand) (ho : o.op = .binOp .neq 35 x (.const (.int .i64 0)) 35) (a : Int) (ha : a ≠ 0) (h0 : e x = .int .i64 a) (hc : e (.const (.int .i64 0)) = .int .i64 0) (W : World) : (execOp e o).run Try.prog W = .ok (.value (.bool true)) W := by
  have h2 : (a == 0) = false := by simp [ha]
  unfold execOp
  simp only [ho, h0, hc]
  simp [go_sem, h2, ha]
/-- a table in memory: its routes, and where each prefix's route stands -/
structure TabAt (w : World) (t s n : Nat) (A : Option Addr) (c : Nat) (S : List Rx) (T : Ts) : Prop where
  blk : Blk 116 w t #[.slice A n c, .pointer (some ⟨s, 0, none⟩)]
  len : S.length = n
  le : n ≤ 1000
  row : RdR w A n 21 (rxB S)
  hop : ∀ y, y ∈ S → HopAt w y
  tr : TsAt w s s T
  ix : ∀ k v, T.G k = some v → ∃ i : Nat, v = (i : Int) ∧ i < n ∧ kyF (S.getD i rx0).r.p = some k
  all : ∀ i, i < n → ∃ k, kyF (S.getD i rx0).r.p = some k ∧ T.G k = some (i : Int)
theorem TabAt.below {w w' : World} {t s n : Nat} {A : Option Addr} {c : Nat} {S : List Rx} {T : Ts} (h : TabAt w t s n A c S T) (hb : Below w.heap.size w w') : TabAt w' t s n A c S T :=
  ⟨h.blk.below hb h.blk.lt, h.len, h.le, h.row.below hb rfl, fun y hy => (h.hop y hy).below hb, h.tr.below hb h.tr.lt, h.ix, h.all⟩
/-- what of and Find's place come to -/
theorem getQ_cases {n : Nat} {T : Ts} (hi : ∀ k v, T.G k = some v → ∃ i : Nat, v = (i : Int) ∧ i < n) (k : Option Ky) : (∃ e : Int, getQ T k = .tuple #[.int .i64 0, .bool false, .int .i64 e] ∧ ∀ q, k = some q → T.G q = none) ∨ ∃ (q : Ky) (i : Nat), k = some q ∧ i < n ∧ T.G q = some (i : Int) ∧ getQ T k = .tuple #[.int .i64 (i : Int), .bool true, .int .i64 0] := by
  cases k with
  | none => exact .inl ⟨3, rfl, fun q h => by cases h⟩
  | some q =>
    cases hg : T.G q with
    | none => exact .inl ⟨0, by show getV (T.G q) = _; rw [hg]; rfl, fun q' h => by cases h; exact hg⟩
    | some v =>
      obtain ⟨i, rfl, h⟩ := hi q v hg
      exact .inr ⟨q, i, rfl, h, hg, by show getV (T.G q) = _; rw [hg]; rfl⟩
theorem S_mem {S : List Rx} {i n : Nat} (hn : S.length = n) (h : i < n) : S.getD i rx0 ∈ S := by
  rw [List.getD_eq_getElem?_getD, List.getElem?_eq_getElem (by omega), Option.getD_some]
  exact List.getElem_mem _
set_option maxHeartbeats 16000000 in
set_option maxRecDepth 100000 in
theorem of_any (t s n : Nat) (A : Option Addr) (c : Nat) (S : List Rx) (T : Ts) (p : Pf) (hp : Bytes p.z) (w : World) (hk : Blk 116 w t #[.slice A n c, .pointer (some ⟨s, 0, none⟩)]) (hT : TsAt w s s T) (hr : RdR w A n 21 (rxB S)) (hn : n ≤ 1000) (hi : ∀ k v, T.G k = some v → ∃ i : Nat, v = (i : Int) ∧ i < n) :
    Calls Try.prog 64 #[.pointer (some ⟨t, 0, none⟩), .agg (pfC p)] w fun e w' => Below w.heap.size w w' ∧ ((e = .returned (.tuple #[.agg (rxC rx0), .bool false]) ∧ ∀ q, kyF p = some q → T.G q = none) ∨ ∃ (q : Ky) (i : Nat), kyF p = some q ∧ i < n ∧ T.G q = some (i : Int) ∧ e = .returned (.tuple #[.agg (rxB S i), .bool true])) := by
  have HP := Lib.hid hp
  have HT := Lib.hid hT
  have KT := Lib.hid hk
  have HR := Lib.hid hr
  have HC := getQ_cases hi (kyF p)
  have hnI : (n : Int) ≤ 1000 := by omega
  clear hp hT hk hr hi hn
  obtain ⟨gq, hgq⟩ : ∃ v, getQ T (kyF p) = v := ⟨_, rfl⟩
  have HGQ : Hid (getQ T (kyP p.fam p.len p.z) = gq) := Lib.hid hgq
  rw [hgq] at HC
  clear hgq
  have HRw := Lib.hid HR.out
  go_enter Try.func64, Try.ntmps64
  have HB := Lib.hid (Below.refl w.heap.size w)
  obtain ⟨N1, hN1⟩ : ∃ N, w.heap.size = N := ⟨_, rfl⟩
  have HN1 := Lib.hid hN1
  clear hN1
  go_wp2_with (refine wpList_box (op := ⟨some 3, _, _, _, _, _⟩) rfl 32 (.tmp 1) rfl (pfC p) rfl N1 HN1.out ?_; intro w1 k1 b1 s1; refine Hid.out ?_)
  refine Lib.hid ?_
  have K3 := Lib.hid k1
  clear k1
  have lt_t_N1 : t < N1 := by rw [← HN1.out]; exact KT.out.lt
  have le_HB_N1 : w.heap.size ≤ N1 := by rw [← HN1.out]; exact HB.out.size
  have KTn := Lib.hid (KT.out.below b1 KT.out.lt)
  clear KT
  have KT := KTn
  clear KTn
  have HBn := Lib.hid (HB.out.trans (b1.mono HB.out.size))
  clear HB
  have HB := HBn
  clear HBn
  have HTn := Lib.hid (HT.out.below b1 HT.out.lt)
  clear HT
  have HT := HTn
  clear HTn
  clear b1 HN1
  obtain ⟨N2, hN2⟩ : ∃ N, w1.heap.size = N := ⟨_, rfl⟩
  have HN2 := Lib.hid hN2
  clear hN2
  go_wp2_with (refine wpList_new (op := ⟨some 4, _, _, _, _, _⟩) rfl 70 rfl (rxC rx0) zero_rt N2 HN2.out ?_; intro w2 k1 b1 s1; refine Hid.out ?_)
  refine Lib.hid ?_
  have K4 := Lib.hid k1
  clear k1
  have lt_t_N2 : t < N2 := by rw [← HN2.out]; exact KT.out.lt
  have lt_N1_N2 : N1 < N2 := by rw [← HN2.out]; exact K3.out.lt
  have le_HB_N2 : w.heap.size ≤ N2 := by rw [← HN2.out]; exact HB.out.size
  have KTn := Lib.hid (KT.out.below b1 KT.out.lt)
  clear KT
  have KT := KTn
  clear KTn
  have K3n := Lib.hid (K3.out.below b1 K3.out.lt)
  clear K3
  have K3 := K3n
  clear K3n
  have HBn := Lib.hid (HB.out.trans (b1.mono HB.out.size))
  clear HB
  have HB := HBn
  clear HBn
  have HTn := Lib.hid (HT.out.below b1 HT.out.lt)
  clear HT
  have HT := HTn
  clear HTn
  clear b1 HN2
  go_wp2_with fail
  have HTd := Lib.hid HT.out.drew
  clear HT
  refine wp_region_held_drew (S := fun w' => Blk 116 w' t (#[.slice A n c, .pointer (some ⟨s, 0, none⟩)]) ∧ Blk 32 w' N1 (pfC p) ∧ Blk 70 w' N2 (rxC rx0) ∧ Below w.heap.size w w') (by kernel_rfl) ⟨KT.out, K3.out, K4.out, HB.out.drew⟩ (fun hS => ?_)
  generalize hW3 : w2.drew = W3 at hS HTd ⊢
  clear hW3
  clear KT
  clear K3
  clear K4
  clear HB
  have HT := HTd
  clear HTd
  have KT := Lib.hid hS.1
  have K3 := Lib.hid hS.2.1
  have K4 := Lib.hid hS.2.2.1
  have HB := Lib.hid hS.2.2.2
  refine takeY (i := 0) (some 10) (v := .pointer (some ⟨t, 0, none⟩)) rfl rfl (by kernel_rfl) (by kernel_rfl) (by kernel_rfl) (fun _ _ _ h => h) (by rfl) (fun w' hS => by clear hS; go_simp) hS ?_
  simp only [Act.put, List.setIfInBounds_toArray, List.set_cons_zero, List.set_cons_succ]
  refine takeY (i := 1) (some 11) (v := .pointer (some ⟨t, 0, none⟩)) rfl rfl (by kernel_rfl) (by kernel_rfl) (by kernel_rfl) (fun _ _ _ h => h) (by rfl) (fun w' hS => by clear hS; go_simp) hS ?_
  simp only [Act.put, List.setIfInBounds_toArray, List.set_cons_zero, List.set_cons_succ]
  refine takeY (i := 2) (some 12) (v := .pointer (some ⟨t, 1, none⟩)) rfl rfl (by kernel_rfl) (by kernel_rfl) (by kernel_rfl) (fun _ _ _ h => h) (by rfl) (fun w' hS => by clear hS; go_simp) hS ?_
  simp only [Act.put, List.setIfInBounds_toArray, List.set_cons_zero, List.set_cons_succ]
  refine takeY (i := 3) (some 13) (v := .pointer (some ⟨s, 0, none⟩)) rfl rfl (by kernel_rfl) (by kernel_rfl) (by kernel_rfl) (fun _ _ _ h => h) (by rfl) (fun w' hS => by (have c9 : w'.cell? ⟨t, 1, none⟩ = some (.pointer (some ⟨s, 0, none⟩)) := (hS.1.cell 1).trans rfl; clear hS; go_simp)) hS ?_
  simp only [Act.put, List.setIfInBounds_toArray, List.set_cons_zero, List.set_cons_succ]
  refine takeL (i := 4) (some 14) 32 (.tmp 3) N1 0 (pfC p) _ rfl rfl (by kernel_rfl) (by kernel_rfl) (by kernel_rfl) (fun _ _ _ h => h) (by rfl) rfl rfl (fun w' hS => hS.2.1.all) Try.underlying32 rfl (hi_pv _ _ _) hS ?_
  simp only [Act.put, List.setIfInBounds_toArray, List.set_cons_zero, List.set_cons_succ]
  refine takeC (i := 5) (some 15) 42 #[.pointer (some ⟨s, 0, none⟩), .agg (pfC p)] (gq) (R := fun w' => Below W3.heap.size W3 w') rfl rfl (by kernel_rfl) (by rfl) (by go_simp) (by have h9 := get_T s s T p.fam p.len p.z HP.out W3 HT.out; rw [HGQ.out] at h9; exact h9) (fun w' hb => ⟨hS.1.below hb hS.1.lt, hS.2.1.below hb hS.2.1.lt, hS.2.2.1.below hb hS.2.2.1.lt, hS.2.2.2.trans (hb.mono hS.2.2.2.size)⟩) (fun W4 hb1 hS2 => ?_)
  simp only [Act.put, List.setIfInBounds_toArray, List.set_cons_zero, List.set_cons_succ]
  have HTn := Lib.hid (HT.out.below hb1 HT.out.lt)
  clear HT
  have HT := HTn
  clear HTn
  clear KT
  clear K3
  clear K4
  clear HB
  clear hS hb1
  have hS := hS2
  clear hS2
  have KT := Lib.hid hS.1
  have K3 := Lib.hid hS.2.1
  have K4 := Lib.hid hS.2.2.1
  have HB := Lib.hid hS.2.2.2
  rcases HC with ⟨e0, rfl, hno⟩ | ⟨q, i, hq, hi, hgi, rfl⟩
  · have HNO := Lib.hid hno
    clear hno
    refine takeY (i := 6) (some 9) (v := .tuple #[.int .i64 0, .bool false, .int .i64 e0]) rfl rfl (by kernel_rfl) (by kernel_rfl) (by kernel_rfl) (fun _ _ _ h => h) (by rfl) (fun w' hS => by clear hS; go_simp) hS ?_
    simp only [Act.put, List.setIfInBounds_toArray, List.set_cons_zero, List.set_cons_succ]
    refine takeY (i := 7) (some 16) (v := .int .i64 0) rfl rfl (by kernel_rfl) (by kernel_rfl) (by kernel_rfl) (fun _ _ _ h => h) (by rfl) (fun w' hS => by clear hS; go_simp) hS ?_
    simp only [Act.put, List.setIfInBounds_toArray, List.set_cons_zero, List.set_cons_succ]
    refine takeY (i := 8) (some 17) (v := .bool false) rfl rfl (by kernel_rfl) (by kernel_rfl) (by kernel_rfl) (fun _ _ _ h => h) (by rfl) (fun w' hS => by clear hS; go_simp) hS ?_
    simp only [Act.put, List.setIfInBounds_toArray, List.set_cons_zero, List.set_cons_succ]
    refine takeY (i := 9) (some 18) (v := .int .i64 e0) rfl rfl (by kernel_rfl) (by kernel_rfl) (by kernel_rfl) (fun _ _ _ h => h) (by rfl) (fun w' hS => by clear hS; go_simp) hS ?_
    simp only [Act.put, List.setIfInBounds_toArray, List.set_cons_zero, List.set_cons_succ]
    refine takeY (i := 10) (some 6) (v := .int .i64 0) rfl rfl (by kernel_rfl) (by kernel_rfl) (by kernel_rfl) (fun _ _ _ h => h) (by rfl) (fun w' hS => by clear hS; go_simp) hS ?_
    simp only [Act.put, List.setIfInBounds_toArray, List.set_cons_zero, List.set_cons_succ]
    refine takeY (i := 11) (some 7) (v := .bool false) rfl rfl (by kernel_rfl) (by kernel_rfl) (by kernel_rfl) (fun _ _ _ h => h) (by rfl) (fun w' hS => by clear hS; go_simp) hS ?_
    simp only [Act.put, List.setIfInBounds_toArray, List.set_cons_zero, List.set_cons_succ]
    refine takeY (i := 12) (some 8) (v := .int .i64 e0) rfl rfl (by kernel_rfl) (by kernel_rfl) (by kernel_rfl) (fun _ _ _ h => h) (by rfl) (fun w' hS => by clear hS; go_simp) hS ?_
    simp only [Act.put, List.setIfInBounds_toArray, List.set_cons_zero, List.set_cons_succ]
    clear hS
    refine wpAnyH_done (by kernel_rfl) ?_ _
    clear HT
    go_wp2_with (refine wpList_v (op := ⟨some 21, _, _, _, _, _⟩) rfl (.agg (rxC rx0)) (bld_rt0 _ _ rfl _) ?_; refine Hid.out ?_)
    refine Lib.hid ?_
    go_wp2_with (refine wpList_st rfl 70 (.tmp 4) (.tmp 21) rfl N2 0 rfl (.agg (rxC rx0)) (rxC rx0) rfl rfl info_rt (rx_one _) K4.out (Nat.le_of_ble_eq_true rfl) (C' := rxC rx0) (rx_over _ _) ?_; intro w5 q1; refine Hid.out ?_)
    refine Lib.hid ?_
    have KTn := Lib.hid (KT.out.far q1 (by omega))
    clear KT
    have KT := KTn
    clear KTn
    have K3n := Lib.hid (K3.out.far q1 (by omega))
    clear K3
    have K3 := K3n
    clear K3n
    have HBn := Lib.hid (HB.out.trans (q1.2.1 _ (by omega)))
    clear HB
    have HB := HBn
    clear HBn
    have K4n : Hid (Blk 70 w5 N2 (rxC rx0)) := Lib.hid q1.1
    clear K4
    have K4 := K4n
    clear K4n q1
    go_wp2_with fail
    exact bodyPost_ret (results_2 rfl _ _ N2 (rxC rx0) (.bool false) Try.underlying70 rfl info_rt rfl rfl K4.out) rfl ⟨HB.out, .inl ⟨rfl, HNO.out⟩⟩
  · have HQ := Lib.hid (And.intro hq (And.intro hi hgi))
    refine takeY (i := 6) (some 9) (v := .tuple #[.int .i64 (i : Int), .bool true, .int .i64 0]) rfl rfl (by kernel_rfl) (by kernel_rfl) (by kernel_rfl) (fun _ _ _ h => h) (by rfl) (fun w' hS => by clear hS; go_simp) hS ?_
    simp only [Act.put, List.setIfInBounds_toArray, List.set_cons_zero, List.set_cons_succ]
    refine takeY (i := 7) (some 16) (v := .int .i64 (i : Int)) rfl rfl (by kernel_rfl) (by kernel_rfl) (by kernel_rfl) (fun _ _ _ h => h) (by rfl) (fun w' hS => by clear hS; go_simp) hS ?_
    simp only [Act.put, List.setIfInBounds_toArray, List.set_cons_zero, List.set_cons_succ]
    refine takeY (i := 8) (some 17) (v := .bool true) rfl rfl (by kernel_rfl) (by kernel_rfl) (by kernel_rfl) (fun _ _ _ h => h) (by rfl) (fun w' hS => by clear hS; go_simp) hS ?_
    simp only [Act.put, List.setIfInBounds_toArray, List.set_cons_zero, List.set_cons_succ]
    refine takeY (i := 9) (some 18) (v := .int .i64 0) rfl rfl (by kernel_rfl) (by kernel_rfl) (by kernel_rfl) (fun _ _ _ h => h) (by rfl) (fun w' hS => by clear hS; go_simp) hS ?_
    simp only [Act.put, List.setIfInBounds_toArray, List.set_cons_zero, List.set_cons_succ]
    refine takeY (i := 10) (some 6) (v := .int .i64 (i : Int)) rfl rfl (by kernel_rfl) (by kernel_rfl) (by kernel_rfl) (fun _ _ _ h => h) (by rfl) (fun w' hS => by clear hS; go_simp) hS ?_
    simp only [Act.put, List.setIfInBounds_toArray, List.set_cons_zero, List.set_cons_succ]
    refine takeY (i := 11) (some 7) (v := .bool true) rfl rfl (by kernel_rfl) (by kernel_rfl) (by kernel_rfl) (fun _ _ _ h => h) (by rfl) (fun w' hS => by clear hS; go_simp) hS ?_
    simp only [Act.put, List.setIfInBounds_toArray, List.set_cons_zero, List.set_cons_succ]
    refine takeY (i := 12) (some 8) (v := .int .i64 0) rfl rfl (by kernel_rfl) (by kernel_rfl) (by kernel_rfl) (fun _ _ _ h => h) (by rfl) (fun w' hS => by clear hS; go_simp) hS ?_
    simp only [Act.put, List.setIfInBounds_toArray, List.set_cons_zero, List.set_cons_succ]
    clear hS
    refine wpAnyH_done (by kernel_rfl) ?_ _
    clear HT
    have hiI : (i : Int) < (n : Int) := by omega
    have hi0 : (0 : Int) ≤ (i : Int) := by omega
    obtain ⟨bA, off, rfl, hr⟩ := HR.out.row (by omega)
    have h1 : Hid (W4.rangeAt bA (off + i * 21) (rxB S i).toList) := Lib.hid (rangeAt_below (hr.2 i hi) HB.out hr.1)
    clear hr hq hi hgi HRw
    have c0 : W4.cell? ⟨t, 0, none⟩ = some (.slice (some ⟨bA, off, none⟩) n c) := (KT.out.cell 0).trans rfl
    go_wp2_with (refine wpList_ld (op := ⟨some 28, _, _, _, _, _⟩) (by rfl) 70 (.tmp 27) rfl bA (off + i * 21) rfl (rxB S i) _ h1.out Try.underlying70 rfl info_rt ?_; refine Hid.out ?_)
    refine Lib.hid ?_
    clear h1 c0
    go_wp2_with (refine wpList_st rfl 70 (.tmp 4) (.tmp 28) rfl N2 0 rfl (.agg (rxB S i)) (rxB S i) rfl rfl info_rt (rx_one _) K4.out (Nat.le_of_ble_eq_true rfl) (C' := rxB S i) (rx_over _ _) ?_; intro w5 q1; refine Hid.out ?_)
    refine Lib.hid ?_
    have KTn := Lib.hid (KT.out.far q1 (by omega))
    clear KT
    have KT := KTn
    clear KTn
    have K3n := Lib.hid (K3.out.far q1 (by omega))
    clear K3
    have K3 := K3n
    clear K3n
    have HBn := Lib.hid (HB.out.trans (q1.2.1 _ (by omega)))
    clear HB
    have HB := HBn
    clear HBn
    have K4n : Hid (Blk 70 w5 N2 (rxB S i)) := Lib.hid q1.1
    clear K4
    have K4 := K4n
    clear K4n q1
    go_wp2_with fail
    exact bodyPost_ret (results_2 rfl _ _ N2 (rxB S i) (.bool true) Try.underlying70 rfl info_rt rfl rfl K4.out) rfl ⟨HB.out, .inr ⟨q, i, HQ.out.1, HQ.out.2.1, HQ.out.2.2, rfl⟩⟩
set_option maxHeartbeats 16000000 in
set_option maxRecDepth 100000 in
theorem tlistR_nil (w : World) : Calls Try.prog 36 #[.pointer none] w fun e w' => e = .returned (.slice none 0 0) ∧ w = w' := by
  go_enter Try.func36, Try.ntmps36
  go_wp2
  exact bodyPost_ret (v := .slice none 0 0) (by simp [results, Try.f36, go_sem]) rfl ⟨rfl, rfl⟩
set_option maxHeartbeats 16000000 in
set_option maxRecDepth 100000 in
theorem tlistR_any (t s n : Nat) (A : Option Addr) (c : Nat) (S : List Rx) (T : Ts) (w : World) (h : TabAt w t s n A c S T) : Calls Try.prog 36 #[.pointer (some ⟨t, 0, none⟩)] w fun e w' => ∃ v R, e = .returned v ∧ Cpy w' w.heap.size n (fun j => S.getD j rx0) v R ∧ Below w.heap.size w w' := by
  have HC := Lib.hid (copyAll_any (fun j => S.getD j rx0) A n c w h.row (fun j hj => h.hop _ (S_mem h.len hj)) h.le)
  have KT := Lib.hid h.blk
  clear h
  go_enter Try.func36, Try.ntmps36
  have c0 : w.cell? ⟨t, 0, none⟩ = some (.slice A n c) := (KT.out.cell 0).trans rfl
  go_wp2_with fail
  refine HC.out.mono ?_
  rintro e w1 ⟨v, R, rfl, hc, hb⟩
  have HCP := Lib.hid hc
  have HB := Lib.hid hb
  clear hc hb c0
  go_wp2_with fail
  go_ret
  exact ⟨v, R, rfl, HCP.out, HB.out⟩

theorem results_3R {fn : Func} {q r s : Tmp} {t : TypeId} (h : fn.results = #[.cell q t, .tmp r, .tmp s]) (tmps : Array Value) (W : World) (g : Nat) (C : Array Value) (v x : Value) {d : TypeDesc} (hu : Try.prog.underlying t = some d) (hd : d.isRow = true) (hi : (Try.prog.info? t).map (·.size) = some C.size)
    (hp : tmps.getD q undef = .pointer (some ⟨g, 0, none⟩)) (hr : tmps.getD r undef = v) (hs : tmps.getD s undef = x) (hg : Blk t W g C) : (results fn tmps).run Try.prog W = .ok (.tuple #[.agg C, v, x]) W := by
  have h1 := run_loadVar_mid (P := Try.prog) W g 0 t C.toList _ hg.all hu hd (by simpa using hi)
  have hp' : (tmps[q]?).getD undef = .pointer (some ⟨g, 0, none⟩) := by simpa using hp
  have hr' : (tmps[r]?).getD undef = v := by simpa using hr
  have hs' : (tmps[s]?).getD undef = x := by simpa using hs
  simp only [results, h]
  simp [hp', hr', hs', asAddr, h1]
theorem FA_cases {w : World} {B s n : Nat} {T : Ts} (hT : TsAt w B s T) (hi : ∀ k v, T.G k = some v → ∃ i : Nat, v = (i : Int) ∧ i < n) (fam : Int) (z : Nat → Int) : (∃ er : Int, T.FA fam z = (pf0, 0, false, er)) ∨ ∃ (P : Pf) (i : Nat), T.FA fam z = (P, (i : Int), true, 0) ∧ i < n := by
  have key : ∀ pl, (∃ er : Int, faR pl (T.F pl z) = (pf0, 0, false, er)) ∨ ∃ (P : Pf) (i : Nat), faR pl (T.F pl z) = (P, (i : Int), true, 0) ∧ i < n := fun pl => by
    rcases Tr.lng_spec (p := btP (lenB pl) (whZ pl z)) none (hT.ok.o pl) with ⟨h1, _⟩ | ⟨x, v, h1, h2, _, _⟩
    · rw [show T.F pl z = none from h1]; exact .inl ⟨0, rfl⟩
    · obtain ⟨i, rfl, h⟩ := hi (pl, x) v h2
      rw [show T.F pl z = some (x, (i : Int)) from h1]; exact .inr ⟨_, i, rfl, h⟩
  unfold Ts.FA
  by_cases h4 : fam = 4
  · rw [if_pos h4]; exact key false
  rw [if_neg h4]
  by_cases h6 : fam = 6
  · rw [if_pos h6]; exact key true
  rw [if_neg h6]
  exact .inl ⟨1, rfl⟩
/-- what a table's Find answers -/
def TFind (w : World) (S : List Rx) (Q : Pf × Int × Bool × Int) (e : Ending) (w' : World) : Prop := Below w.heap.size w w' ∧ ((∃ er : Int, Q = (pf0, 0, false, er) ∧ e = .returned (.tuple #[.agg (rxC rx0), .bool false, .int .i64 er])) ∨ ∃ (P : Pf) (i : Nat) (y : Rx), Q = (P, (i : Int), true, 0) ∧ y.r = (S.getD i rx0).r ∧ HopOwn w' w.heap.size y ∧ e = .returned (.tuple #[.agg (rxC y), .bool true, .int .i64 0]))
set_option maxHeartbeats 16000000 in
set_option maxRecDepth 100000 in
theorem tfind_any (t s n : Nat) (A : Option Addr) (c : Nat) (S : List Rx) (T : Ts) (fam : Int) (z : Nat → Int) (hz : Bytes z) (w : World) (h : TabAt w t s n A c S T) : Calls Try.prog 34 #[.pointer (some ⟨t, 0, none⟩), .int .u8 fam, .agg (agC z)] w (TFind w S (T.FA fam z)) := by
  have HF := Lib.hid (fun W (hW : Below w.heap.size w W) => find_A s s T fam z hz W (h.tr.below hW h.tr.lt))
  have HCS := FA_cases h.tr (fun k v hg => by obtain ⟨i, h1, h2, _⟩ := h.ix k v hg; exact ⟨i, h1, h2⟩) (n := n) fam z
  have HS := Lib.hid h
  have KT := Lib.hid h.blk
  have hnI : (n : Int) ≤ 1000 := by have := h.le; omega
  clear hz h
  obtain ⟨Q, hQ⟩ : ∃ Q, T.FA fam z = Q := ⟨_, rfl⟩
  rw [hQ] at HF HCS ⊢
  clear hQ
  go_enter Try.func34, Try.ntmps34
  have HB := Lib.hid (Below.refl w.heap.size w)
  obtain ⟨N1, hN1⟩ : ∃ N, w.heap.size = N := ⟨_, rfl⟩
  have HN1 := Lib.hid hN1
  clear hN1
  go_wp2_with (refine wpList_box (op := ⟨some 5, _, _, _, _, _⟩) rfl 23 (.tmp 2) rfl (agC z) rfl N1 HN1.out ?_; intro w1 k1 b1 s1; refine Hid.out ?_)
  refine Lib.hid ?_
  have K5 := Lib.hid k1
  clear k1
  have lt_t_N1 : t < N1 := by rw [← HN1.out]; exact KT.out.lt
  have le_HB_N1 : w.heap.size ≤ N1 := by rw [← HN1.out]; exact HB.out.size
  have KTn := Lib.hid (KT.out.below b1 KT.out.lt)
  clear KT
  have KT := KTn
  clear KTn
  have HBn := Lib.hid (HB.out.trans (b1.mono HB.out.size))
  clear HB
  have HB := HBn
  clear HBn
  clear b1 HN1
  obtain ⟨N2, hN2⟩ : ∃ N, w1.heap.size = N := ⟨_, rfl⟩
  have HN2 := Lib.hid hN2
  clear hN2
  go_wp2_with (refine wpList_new (op := ⟨some 6, _, _, _, _, _⟩) rfl 70 rfl (rxC rx0) zero_rt N2 HN2.out ?_; intro w2 k1 b1 s1; refine Hid.out ?_)
  refine Lib.hid ?_
  have K6 := Lib.hid k1
  clear k1
  have lt_t_N2 : t < N2 := by rw [← HN2.out]; exact KT.out.lt
  have lt_N1_N2 : N1 < N2 := by rw [← HN2.out]; exact K5.out.lt
  have le_HB_N2 : w.heap.size ≤ N2 := by rw [← HN2.out]; exact HB.out.size
  have KTn := Lib.hid (KT.out.below b1 KT.out.lt)
  clear KT
  have KT := KTn
  clear KTn
  have K5n := Lib.hid (K5.out.below b1 K5.out.lt)
  clear K5
  have K5 := K5n
  clear K5n
  have HBn := Lib.hid (HB.out.trans (b1.mono HB.out.size))
  clear HB
  have HB := HBn
  clear HBn
  clear b1 HN2
  have c1 : w2.cell? ⟨t, 1, none⟩ = some (.pointer (some ⟨s, 0, none⟩)) := (KT.out.cell 1).trans rfl
  go_wp2_with (refine wpList_ld (op := ⟨some 23, _, _, _, _, _⟩) (by rfl) 23 (.tmp 5) rfl N1 0 rfl (agC z) _ K5.out.all Try.underlying23 rfl (hi_ag z) ?_; refine Hid.out ?_)
  refine Lib.hid ?_
  clear c1
  go_wp2_with fail
  refine (HF.out _ HB.out).mono ?_
  rintro e w3 ⟨rfl, b1⟩
  have KTn := Lib.hid (KT.out.below b1 KT.out.lt)
  clear KT
  have KT := KTn
  clear KTn
  have K5n := Lib.hid (K5.out.below b1 K5.out.lt)
  clear K5
  have K5 := K5n
  clear K5n
  have K6n := Lib.hid (K6.out.below b1 K6.out.lt)
  clear K6
  have K6 := K6n
  clear K6n
  have HBn := Lib.hid (HB.out.trans (b1.mono HB.out.size))
  clear HB
  have HB := HBn
  clear HBn
  clear b1
  rcases HCS with ⟨er, rfl⟩ | ⟨P, i, rfl, hi⟩
  · rw [show faV (pf0, 0, false, er) = .tuple #[.agg (pfC pf0), .int .i64 0, .bool false, .int .i64 er] from rfl]
    obtain ⟨N4, hN4⟩ : ∃ N, w3.heap.size = N := ⟨_, rfl⟩
    have HN4 := Lib.hid hN4
    clear hN4
    go_wp2_with (refine wpList_new (op := ⟨some 10, _, _, _, _, _⟩) rfl 32 rfl (pvC 0 0 Z0) zero_pvT N4 HN4.out ?_; intro w4 k1 b1 s1; refine Hid.out ?_)
    refine Lib.hid ?_
    have K10 := Lib.hid k1
    clear k1
    have lt_t_N4 : t < N4 := by rw [← HN4.out]; exact KT.out.lt
    have lt_N1_N4 : N1 < N4 := by rw [← HN4.out]; exact K5.out.lt
    have lt_N2_N4 : N2 < N4 := by rw [← HN4.out]; exact K6.out.lt
    have le_HB_N4 : w.heap.size ≤ N4 := by rw [← HN4.out]; exact HB.out.size
    have KTn := Lib.hid (KT.out.below b1 KT.out.lt)
    clear KT
    have KT := KTn
    clear KTn
    have K5n := Lib.hid (K5.out.below b1 K5.out.lt)
    clear K5
    have K5 := K5n
    clear K5n
    have K6n := Lib.hid (K6.out.below b1 K6.out.lt)
    clear K6
    have K6 := K6n
    clear K6n
    have HBn := Lib.hid (HB.out.trans (b1.mono HB.out.size))
    clear HB
    have HB := HBn
    clear HBn
    clear b1 HN4
    go_wp2_with (refine wpList_st rfl 32 (.tmp 10) (.tmp 25) rfl N4 0 rfl (.agg (pfC pf0)) (pfC pf0) rfl rfl info_pv (all_pv _ _ _) K10.out (Nat.le_of_ble_eq_true rfl) (C' := pfC pf0) (pv_over _ _ _ _ _ _) ?_; intro w5 q1; refine Hid.out ?_)
    refine Lib.hid ?_
    have KTn := Lib.hid (KT.out.far q1 (by omega))
    clear KT
    have KT := KTn
    clear KTn
    have K5n := Lib.hid (K5.out.far q1 (by omega))
    clear K5
    have K5 := K5n
    clear K5n
    have K6n := Lib.hid (K6.out.far q1 (by omega))
    clear K6
    have K6 := K6n
    clear K6n
    have HBn := Lib.hid (HB.out.trans (q1.2.1 _ (by omega)))
    clear HB
    have HB := HBn
    clear HBn
    have K10n : Hid (Blk 32 w5 N4 (pfC pf0)) := Lib.hid q1.1
    clear K10
    have K10 := K10n
    clear K10n q1
    by_cases her : er = 0
    · subst her
      go_wp2_with (refine wpList_v (op := ⟨some 35, _, _, _, _, _⟩) rfl (.agg (rxC rx0)) (bld_rt0 _ _ rfl _) ?_; refine Hid.out ?_)
      refine Lib.hid ?_
      go_wp2_with (refine wpList_st rfl 70 (.tmp 6) (.tmp 35) rfl N2 0 rfl (.agg (rxC rx0)) (rxC rx0) rfl rfl info_rt (rx_one _) K6.out (Nat.le_of_ble_eq_true rfl) (C' := rxC rx0) (rx_over _ _) ?_; intro w6 q1; refine Hid.out ?_)
      refine Lib.hid ?_
      have KTn := Lib.hid (KT.out.far q1 (by omega))
      clear KT
      have KT := KTn
      clear KTn
      have K5n := Lib.hid (K5.out.far q1 (by omega))
      clear K5
      have K5 := K5n
      clear K5n
      have K10n := Lib.hid (K10.out.far q1 (by omega))
      clear K10
      have K10 := K10n
      clear K10n
      have HBn := Lib.hid (HB.out.trans (q1.2.1 _ (by omega)))
      clear HB
      have HB := HBn
      clear HBn
      have K6n : Hid (Blk 70 w6 N2 (rxC rx0)) := Lib.hid q1.1
      clear K6
      have K6 := K6n
      clear K6n q1
      go_wp2_with fail
      exact bodyPost_ret (results_3R rfl _ _ N2 (rxC rx0) (.bool false) (.int .i64 0) Try.underlying70 rfl info_rt rfl rfl rfl K6.out) rfl ⟨HB.out, .inl ⟨0, rfl, rfl⟩⟩
    · have HER := Lib.hid her
      clear her
      go_wp2_with (refine wpList_v (op := ⟨some 30, _, _, _, _, _⟩) rfl (.bool true) (neqE_run _ _ _ rfl er HER.out rfl rfl _) ?_; refine Hid.out ?_)
      refine Lib.hid ?_
      go_wp2_with (refine wpList_v (op := ⟨some 35, _, _, _, _, _⟩) rfl (.agg (rxC rx0)) (bld_rt0 _ _ rfl _) ?_; refine Hid.out ?_)
      refine Lib.hid ?_
      go_wp2_with (refine wpList_st rfl 70 (.tmp 6) (.tmp 35) rfl N2 0 rfl (.agg (rxC rx0)) (rxC rx0) rfl rfl info_rt (rx_one _) K6.out (Nat.le_of_ble_eq_true rfl) (C' := rxC rx0) (rx_over _ _) ?_; intro w6 q1; refine Hid.out ?_)
      refine Lib.hid ?_
      have KTn := Lib.hid (KT.out.far q1 (by omega))
      clear KT
      have KT := KTn
      clear KTn
      have K5n := Lib.hid (K5.out.far q1 (by omega))
      clear K5
      have K5 := K5n
      clear K5n
      have K10n := Lib.hid (K10.out.far q1 (by omega))
      clear K10
      have K10 := K10n
      clear K10n
      have HBn := Lib.hid (HB.out.trans (q1.2.1 _ (by omega)))
      clear HB
      have HB := HBn
      clear HBn
      have K6n : Hid (Blk 70 w6 N2 (rxC rx0)) := Lib.hid q1.1
      clear K6
      have K6 := K6n
      clear K6n q1
      go_wp2_with fail
      exact bodyPost_ret (results_3R rfl _ _ N2 (rxC rx0) (.bool false) (.int .i64 er) Try.underlying70 rfl info_rt rfl rfl rfl K6.out) rfl ⟨HB.out, .inl ⟨er, rfl, rfl⟩⟩
  · rw [show faV (P, (i : Int), true, 0) = .tuple #[.agg (pfC P), .int .i64 (i : Int), .bool true, .int .i64 0] from rfl]
    obtain ⟨N4, hN4⟩ : ∃ N, w3.heap.size = N := ⟨_, rfl⟩
    have HN4 := Lib.hid hN4
    clear hN4
    go_wp2_with (refine wpList_new (op := ⟨some 10, _, _, _, _, _⟩) rfl 32 rfl (pvC 0 0 Z0) zero_pvT N4 HN4.out ?_; intro w4 k1 b1 s1; refine Hid.out ?_)
    refine Lib.hid ?_
    have K10 := Lib.hid k1
    clear k1
    have lt_t_N4 : t < N4 := by rw [← HN4.out]; exact KT.out.lt
    have lt_N1_N4 : N1 < N4 := by rw [← HN4.out]; exact K5.out.lt
    have lt_N2_N4 : N2 < N4 := by rw [← HN4.out]; exact K6.out.lt
    have le_HB_N4 : w.heap.size ≤ N4 := by rw [← HN4.out]; exact HB.out.size
    have KTn := Lib.hid (KT.out.below b1 KT.out.lt)
    clear KT
    have KT := KTn
    clear KTn
    have K5n := Lib.hid (K5.out.below b1 K5.out.lt)
    clear K5
    have K5 := K5n
    clear K5n
    have K6n := Lib.hid (K6.out.below b1 K6.out.lt)
    clear K6
    have K6 := K6n
    clear K6n
    have HBn := Lib.hid (HB.out.trans (b1.mono HB.out.size))
    clear HB
    have HB := HBn
    clear HBn
    clear b1 HN4
    go_wp2_with (refine wpList_st rfl 32 (.tmp 10) (.tmp 25) rfl N4 0 rfl (.agg (pfC P)) (pfC P) rfl rfl info_pv (all_pv _ _ _) K10.out (Nat.le_of_ble_eq_true rfl) (C' := pfC P) (pv_over _ _ _ _ _ _) ?_; intro w5 q1; refine Hid.out ?_)
    refine Lib.hid ?_
    have KTn := Lib.hid (KT.out.far q1 (by omega))
    clear KT
    have KT := KTn
    clear KTn
    have K5n := Lib.hid (K5.out.far q1 (by omega))
    clear K5
    have K5 := K5n
    clear K5n
    have K6n := Lib.hid (K6.out.far q1 (by omega))
    clear K6
    have K6 := K6n
    clear K6n
    have HBn := Lib.hid (HB.out.trans (q1.2.1 _ (by omega)))
    clear HB
    have HB := HBn
    clear HBn
    have K10n : Hid (Blk 32 w5 N4 (pfC P)) := Lib.hid q1.1
    clear K10
    have K10 := K10n
    clear K10n q1
    have hiI : (i : Int) < (n : Int) := by omega
    have hi0 : (0 : Int) ≤ (i : Int) := by omega
    obtain ⟨bA, off, rfl, hr⟩ := HS.out.row.row (by omega)
    have h1 : Hid (w5.rangeAt bA (off + i * 21) (rxB S i).toList) := Lib.hid (rangeAt_below (hr.2 i hi) HB.out hr.1)
    have HHI : Hid (HopAt w5 (S.getD i rx0)) := Lib.hid ((HS.out.hop _ (S_mem HS.out.len hi)).below HB.out)
    clear hr hi
    have c0 : w5.cell? ⟨t, 0, none⟩ = some (.slice (some ⟨bA, off, none⟩) n c) := (KT.out.cell 0).trans rfl
    go_wp2_with (refine wpList_ld (op := ⟨some 43, _, _, _, _, _⟩) (by rfl) 70 (.tmp 42) rfl bA (off + i * 21) rfl (rxB S i) _ h1.out Try.underlying70 rfl info_rt ?_; refine Hid.out ?_)
    refine Lib.hid ?_
    clear h1 c0
    go_wp2_with fail
    refine (copyOf_any (S.getD i rx0) w5 HHI.out).mono ?_
    have HWB : Hid (w.heap.size ≤ w5.heap.size) := Lib.hid HB.out.size
    rintro e w6 ⟨y, rfl, hy, ho, b1⟩
    have HO := Lib.hid ho
    have HYR := Lib.hid hy
    have KTn := Lib.hid (KT.out.below b1 KT.out.lt)
    clear KT
    have KT := KTn
    clear KTn
    have K5n := Lib.hid (K5.out.below b1 K5.out.lt)
    clear K5
    have K5 := K5n
    clear K5n
    have K6n := Lib.hid (K6.out.below b1 K6.out.lt)
    clear K6
    have K6 := K6n
    clear K6n
    have K10n := Lib.hid (K10.out.below b1 K10.out.lt)
    clear K10
    have K10 := K10n
    clear K10n
    have HBn := Lib.hid (HB.out.trans (b1.mono HB.out.size))
    clear HB
    have HB := HBn
    clear HBn
    clear b1 ho hy HHI
    have K6o := Lib.hid K6.out
    go_wp2_with (refine wpList_st rfl 70 (.tmp 6) (.tmp 44) rfl N2 0 rfl (.agg (rxC y)) (rxC y) rfl rfl info_rt (rx_one _) K6.out (Nat.le_of_ble_eq_true rfl) (C' := rxC y) (rx_over _ _) ?_; intro w7 q1; refine Hid.out ?_)
    refine Lib.hid ?_
    have HOn : Hid (HopOwn w7 _ y) := Lib.hid ⟨HO.out.1.stR K6o.out (by decide) q1, HO.out.2⟩
    clear HO K6o
    have HO := HOn
    clear HOn
    have KTn := Lib.hid (KT.out.far q1 (by omega))
    clear KT
    have KT := KTn
    clear KTn
    have K5n := Lib.hid (K5.out.far q1 (by omega))
    clear K5
    have K5 := K5n
    clear K5n
    have K10n := Lib.hid (K10.out.far q1 (by omega))
    clear K10
    have K10 := K10n
    clear K10n
    have HBn := Lib.hid (HB.out.trans (q1.2.1 _ (by omega)))
    clear HB
    have HB := HBn
    clear HBn
    have K6n : Hid (Blk 70 w7 N2 (rxC y)) := Lib.hid q1.1
    clear K6
    have K6 := K6n
    clear K6n q1
    go_wp2_with fail
    exact bodyPost_ret (results_3R rfl _ _ N2 (rxC y) (.bool true) (.int .i64 0) Try.underlying70 rfl info_rt rfl rfl rfl K6.out) rfl ⟨HB.out, .inr ⟨P, i, y, rfl, HYR.out, HO.out.mono HWB.out, rfl⟩⟩
end Go.Proofs.Ytjnbemopfhinbaa
