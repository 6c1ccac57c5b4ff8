/- Two texts put together; each theorem states its conditions. -/
import Derived.Test.YtldgfjcdlkbngaaTrV
/- SamePrefixes: two lists with the same prefixes are alike. Each theorem states its conditions. -/
namespace Go.Proofs.Ytldgfjcdlkbngaa
open Go.RowKit
set_option linter.unusedVariables false
set_option linter.unusedSimpArgs false

theorem rdR_at {w w' : World} {b off m s B : Nat} {C : Nat → Array Value} (h : RowR w b off m s C) (hb : Below B w w') (hB : b < B) (j : Nat) (hj : j < m) : w'.rangeAt b (off + j * s) (C j).toList := rangeAt_below (h.2 j hj) hb hB
set_option maxHeartbeats 16000000 in
set_option maxRecDepth 100000 in
theorem sameP (a a' : Option Addr) (n c c' : Nat) (P P' : Nat → Pf) (hP : ∀ j, Bytes (P j).z) (he : ∀ j, j < n → pfC (P j) = pfC (P' j)) (hn : n ≤ 1000000) (w : World) (h1 : RdR w a n 18 (fun j => pfC (P j))) (h2 : RdR w a' n 18 (fun j => pfC (P' j))) :
    Calls Try.prog 21 #[.slice a n c, .slice a' n c'] w fun e w' => e = .returned (.bool true) ∧ Below w.heap.size w w' := by
  have HP := Lib.hid hP
  have HNN := Lib.hid hn
  clear hn
  have HE := Lib.hid he
  have H1 := Lib.hid h1
  have H2 := Lib.hid h2
  clear hP he h1 h2
  go_enter Try.func21, Try.ntmps21
  go_wp2_with fail
  go_loopw [13] (fun t wr => ∃ i : Nat, i ≤ n ∧ t = .int .i64 i ∧ Hid (Below w.heap.size w wr)) (fun t _ => n - (intOf t).toNat)
  case atStart => exact ⟨0, by omega, rfl, Lib.hid (Below.refl _ _)⟩
  case round =>
    obtain ⟨i, hi, rfl, hb⟩ := hrel
    by_cases hin : i < n
    · have hii : (i : Int) < (n : Int) := by omega
      obtain ⟨b1, o1, rfl, r1⟩ := H1.out.row (by omega)
      obtain ⟨b2, o2, rfl, r2⟩ := H2.out.row (by omega)
      have R1 := Lib.hid r1
      have R2 := Lib.hid r2
      have HCI := Lib.hid (HE.out i hin)
      have hi0 : (0 : Int) ≤ (i : Int) := by omega
      have HIN := Lib.hid hin
      clear H1 H2 r1 r2 hin hi
      go_wp2_with fail
      refine wp_region_held_drew (S := fun w' => Below w.heap.size w w') (by kernel_rfl) hb.out.drew (fun hS => ?_)
      generalize hW5 : wr.drew = W5 at hS ⊢
      clear hW5 hb
      refine takeY (i := 0) (some 16) (v := .slice (some ⟨b1, o1, none⟩) n c) rfl rfl (by kernel_rfl) (by kernel_rfl) (by kernel_rfl) (fun _ _ _ h => h) (by rfl) (fun w' hS => by clear hS; go_simp) hS ?_
      simp only [Act.put, List.setIfInBounds_toArray, List.set_cons_zero, List.set_cons_succ]
      refine takeY (i := 1) (some 17) (v := .int .i64 i) rfl rfl (by kernel_rfl) (by kernel_rfl) (by kernel_rfl) (fun _ _ _ h => h) (by rfl) (fun w' hS => by clear hS; go_simp) hS ?_
      simp only [Act.put, List.setIfInBounds_toArray, List.set_cons_zero, List.set_cons_succ]
      refine takeY (i := 2) (some 18) (v := .pointer (some ⟨b1, o1 + i * 18, none⟩)) rfl rfl (by kernel_rfl) (by kernel_rfl) (by kernel_rfl) (fun _ _ _ h => h) (by rfl) (fun w' hS => by clear hS; go_simp) hS ?_
      simp only [Act.put, List.setIfInBounds_toArray, List.set_cons_zero, List.set_cons_succ]
      refine takeL (i := 3) (some 19) 32 (.tmp 18) b1 (o1 + i * 18) (pfC (P i)) _ rfl rfl (by kernel_rfl) (by kernel_rfl) (by kernel_rfl) (fun _ _ _ h => h) (by rfl) rfl rfl (fun w' hS => rdR_at R1.out hS R1.out.1 i HIN.out) Try.underlying32 rfl (hi_pv _ _ _) hS ?_
      simp only [Act.put, List.setIfInBounds_toArray, List.set_cons_zero, List.set_cons_succ]
      refine takeY (i := 4) (some 20) (v := (.slice (some ⟨b2, o2, none⟩) n c')) rfl rfl (by kernel_rfl) (by kernel_rfl) (by kernel_rfl) (fun _ _ _ h => h) (by rfl) (fun w' hS => by clear hS; go_simp) hS ?_
      simp only [Act.put, List.setIfInBounds_toArray, List.set_cons_zero, List.set_cons_succ]
      refine takeY (i := 5) (some 21) (v := .int .i64 i) rfl rfl (by kernel_rfl) (by kernel_rfl) (by kernel_rfl) (fun _ _ _ h => h) (by rfl) (fun w' hS => by clear hS; go_simp) hS ?_
      simp only [Act.put, List.setIfInBounds_toArray, List.set_cons_zero, List.set_cons_succ]
      refine takeY (i := 6) (some 22) (v := .pointer (some ⟨b2, o2 + i * 18, none⟩)) rfl rfl (by kernel_rfl) (by kernel_rfl) (by kernel_rfl) (fun _ _ _ h => h) (by rfl) (fun w' hS => by clear hS; go_simp) hS ?_
      simp only [Act.put, List.setIfInBounds_toArray, List.set_cons_zero, List.set_cons_succ]
      refine takeL (i := 7) (some 23) 32 (.tmp 22) b2 (o2 + i * 18) (pfC (P' i)) _ rfl rfl (by kernel_rfl) (by kernel_rfl) (by kernel_rfl) (fun _ _ _ h => h) (by rfl) rfl rfl (fun w' hS => rdR_at R2.out hS R2.out.1 i HIN.out) Try.underlying32 rfl (hi_pv _ _ _) hS ?_
      simp only [Act.put, List.setIfInBounds_toArray, List.set_cons_zero, List.set_cons_succ]
      rw [← HCI.out]
      refine takeY (i := 8) (some 24) (v := .bool false) rfl rfl (by kernel_rfl) (by kernel_rfl) (by kernel_rfl) (fun _ _ _ h => h) (by rfl) (fun w' hS => by clear hS; refine (neq_pv _ _ _ _ rfl (P i).fam (P i).len (P i).z (P i).fam (P i).len (P i).z (HP.out i) (HP.out i) rfl rfl _).trans ?_; simp [Same16]) hS ?_
      simp only [Act.put, List.setIfInBounds_toArray, List.set_cons_zero, List.set_cons_succ]
      have HB := Lib.hid hS
      clear hS
      refine wpAnyH_done (by kernel_rfl) ?_ _
      have hnb : (i : Int) < 1000000 := by have := HNN.out; have := HIN.out; omega
      go_wp2
      go_roundw
      case rel => exact ⟨i + 1, by have := HIN.out; omega, by go_num, HB⟩
      case measure => have := HIN.out; simp only [intOf]; omega
    · have hii : ¬ (i : Int) < (n : Int) := by omega
      clear hin hi
      go_wp2
      refine bodyPost_ret (v := .bool true) (by simp [results, Try.f21, go_sem]) rfl ?_
      exact ⟨rfl, hb.out⟩
end Go.Proofs.Ytldgfjcdlkbngaa
/- The document's example of the trie. Each theorem states its conditions. -/
namespace Go.Proofs.Ytldgfjcdlkbngaa
open Go.RowKit
set_option linter.unusedVariables false
set_option linter.unusedSimpArgs false

def netZ (n : Int) : Nat → Int := fun j => if j = 0 then 10 else if j = 1 then n else 0
theorem netZ_b (n : Int) (h : 0 ≤ n ∧ n ≤ 255) : Bytes (netZ n) := fun j => by unfold netZ; split; omega; split <;> omega
theorem build_net (o : Oper) (e : Operand → Value) (x : Operand) (ho : o.op = .build 23 #[(0, .const (.int .u8 10)), (1, x)]) (n : Int) (h0 : e (.const (.int .u8 10)) = .int .u8 10) (h1 : e x = .int .u8 n) (W : World) : (execOp e o).run Try.prog W = .ok (.value (.agg (agC (netZ n)))) W := by
  unfold execOp
  simp only [ho]
  simp [go_sem, h0, h1]
  kernel_rfl
theorem build_netp (o : Oper) (e : Operand → Value) (x1 x2 : Operand) (ho : o.op = .build 32 #[(0, .const (.int .u8 4)), (1, x1), (2, x2)]) (n : Int) (z : Nat → Int) (h0 : e (.const (.int .u8 4)) = .int .u8 4) (h1 : e x1 = .int .i64 n) (h2 : e x2 = .agg (agC z)) (W : World) : (execOp e o).run Try.prog W = .ok (.value (.agg (pvC 4 n z))) W := by
  unfold execOp
  simp only [ho]
  simp [go_sem, h0, h1, h2, agC_size]
  kernel_rfl
theorem lng_is {t : Tr} {p x : List Bool} {v : Int} (h : Tr.Ok [] t) (hx : Tr.get t x = some v) (hp : x <+: p) (hm : ∀ y, Tr.get t y ≠ none → y <+: p → y.length ≤ x.length) : Tr.lng p t none = some (x, v) := by
  rcases Tr.lng_spec (p := p) none h with ⟨_, h2⟩ | ⟨y, u, h1, h2, h3, h4⟩
  · exact absurd hp (h2 x (by rw [hx]; simp))
  · have a := h4 x (by rw [hx]; simp) hp
    have b := hm y (by rw [h2]; simp) h3
    have e := Tr.pre_uniq hp h3 (by omega)
    subst e
    rw [hx] at h2
    rw [h1, Option.some.inj h2]
def nz0 : Nat → Int := firstZ (netZ 0) 8
def nz1 : Nat → Int := firstZ (netZ 1) 16
def adr1 : Nat → Int := fun j => if j = 0 then 10 else if j = 1 then 1 else if j = 2 then 2 else if j = 3 then 3 else 0
def adr2 : Nat → Int := fun j => if j = 0 then 10 else if j = 1 then 2 else 0
theorem adr1_b : Bytes adr1 := fun j => by unfold adr1; split; omega; split; omega; split; omega; split <;> omega
theorem adr2_b : Bytes adr2 := fun j => by unfold adr2; split; omega; split <;> omega
theorem adr1_c : agC adr1 = #[.int .u8 10, .int .u8 1, .int .u8 2, .int .u8 3, .int .u8 0, .int .u8 0, .int .u8 0, .int .u8 0, .int .u8 0, .int .u8 0, .int .u8 0, .int .u8 0, .int .u8 0, .int .u8 0, .int .u8 0, .int .u8 0] := by kernel_rfl
theorem adr2_c : agC adr2 = #[.int .u8 10, .int .u8 2, .int .u8 0, .int .u8 0, .int .u8 0, .int .u8 0, .int .u8 0, .int .u8 0, .int .u8 0, .int .u8 0, .int .u8 0, .int .u8 0, .int .u8 0, .int .u8 0, .int .u8 0, .int .u8 0] := by kernel_rfl
theorem nz0_b : Bytes nz0 := firstZ_bd (netZ_b 0 (by omega)) 8
theorem nz1_b : Bytes nz1 := firstZ_bd (netZ_b 1 (by omega)) 16
theorem form_n (n : Int) (h : 0 ≤ n ∧ n ≤ 255) (b : Nat) (hb : b ≤ 32) : Form 4 b (firstZ (netZ n) b) := (form_same _ _ _).2 ⟨by left; omega, first_first (netZ n) (netZ_b n h) _ _ (Nat.le_refl _)⟩
theorem nz0_f : Form 4 8 nz0 := form_n 0 (by omega) 8 (by omega)
theorem nz1_f : Form 4 16 nz1 := form_n 1 (by omega) 16 (by omega)
theorem ky0 : kyP 4 8 nz0 = some (false, btP 8 nz0) := by unfold kyP; rw [if_pos nz0_f]; rfl
theorem ky1 : kyP 4 16 nz1 = some (false, btP 16 nz1) := by unfold kyP; rw [if_pos nz1_f]; rfl
theorem cov11 : btP 16 nz1 <+: btP 32 (firstZ adr1 32) := by decide +kernel
theorem cov02 : btP 8 nz0 <+: btP 32 (firstZ adr2 32) := by decide +kernel
theorem cov12 : ¬ btP 16 nz1 <+: btP 32 (firstZ adr2 32) := by decide +kernel
section
variable {T : Ts} (hg : ∀ q, T.G q = if some (false, btP 16 nz1) = some q then some 2 else if some (false, btP 8 nz0) = some q then some 1 else none) (ho : TsOk T)
include hg ho
theorem awF1 : T.F false adr1 = some (btP 16 nz1, 2) := by
  refine lng_is (ho.o false) ((hg (false, btP 16 nz1)).trans (if_pos rfl)) cov11 fun y hy _ => ?_
  have h1 := hg (false, y)
  by_cases e1 : y = btP 16 nz1
  · subst e1; exact Nat.le_refl _
  · by_cases e2 : y = btP 8 nz0
    · subst e2; rw [btP_len, btP_len]; omega
    · rw [if_neg (fun h => e1 (Prod.mk.inj (Option.some.inj h)).2.symm), if_neg (fun h => e2 (Prod.mk.inj (Option.some.inj h)).2.symm)] at h1
      exact absurd h1 hy
theorem awF2 : T.F false adr2 = some (btP 8 nz0, 1) := by
  have hne : btP 16 nz1 ≠ btP 8 nz0 := fun h => by have := congrArg List.length h; rw [btP_len, btP_len] at this; omega
  refine lng_is (ho.o false) ((hg (false, btP 8 nz0)).trans ?_) cov02 fun y hy hc => ?_
  · rw [if_neg (fun h => hne (Prod.mk.inj (Option.some.inj h)).2), if_pos rfl]
  have h1 := hg (false, y)
  by_cases e1 : y = btP 16 nz1
  · subst e1; exact absurd hc cov12
  · by_cases e2 : y = btP 8 nz0
    · subst e2; exact Nat.le_refl _
    · rw [if_neg (fun h => e1 (Prod.mk.inj (Option.some.inj h)).2.symm), if_neg (fun h => e2 (Prod.mk.inj (Option.some.inj h)).2.symm)] at h1
      exact absurd h1 hy
theorem awQ1 : findQ false (T.F false adr1) = .tuple #[.agg (pvC 4 16 nz1), .int .i64 2, .bool true, .int .i64 0] := by
  rw [awF1 hg ho]
  have h := pv_of (fam := 4) (n := 16) nz1_b nz1_f
  show Value.tuple #[.agg (pvC 4 ((btP 16 nz1).length : Nat) (zOf (btP 16 nz1))), _, _, _] = _
  rw [← h]
  rfl
theorem awQ2 : findQ false (T.F false adr2) = .tuple #[.agg (pvC 4 8 nz0), .int .i64 1, .bool true, .int .i64 0] := by
  rw [awF2 hg ho]
  have h := pv_of (fam := 4) (n := 8) nz0_b nz0_f
  show Value.tuple #[.agg (pvC 4 ((btP 8 nz0).length : Nat) (zOf (btP 8 nz0))), _, _, _] = _
  rw [← h]
  rfl
end
set_option maxHeartbeats 16000000 in
set_option maxRecDepth 100000 in
theorem net_any (n : Int) (hn : 0 ≤ n ∧ n ≤ 255) (b : Nat) (hb : b ≤ 32) (w : World) : Calls Try.prog 41 #[.int .u8 n, .int .i64 (b : Int)] w fun e w' => e = .returned (.agg (pvC 4 b (firstZ (netZ n) b))) ∧ Below w.heap.size w w' := by
  have HR := Lib.hid (fun W => ref_first 4 b b (netZ n) W (netZ_b n hn) (by omega))
  clear hn hb
  go_enter Try.func41, Try.ntmps41
  have HB := Lib.hid (Below.refl w.heap.size w)
  obtain ⟨N1, hN1⟩ : ∃ N, w.heap.size = N := ⟨_, rfl⟩
  have HN1 := Lib.hid hN1
  clear hN1
  go_wp2_with (refine wpList_new (op := ⟨some 4, _, _, _, _, _⟩) rfl 32 rfl (pvC 0 0 Z0) zero_pvT N1 HN1.out ?_; intro w1 k1 b1 s1; refine Hid.out ?_)
  refine Lib.hid ?_
  have K4 := Lib.hid k1
  clear k1
  have le_HB_N1 : w.heap.size ≤ N1 := by rw [← HN1.out]; exact HB.out.size
  have HBn := Lib.hid (HB.out.trans (b1.mono HB.out.size))
  clear HB
  have HB := HBn
  clear HBn
  clear b1 HN1
  go_wp2_with (refine wpList_v (op := ⟨some 8, _, _, _, _, _⟩) rfl (.agg (agC (netZ n))) (build_net _ _ _ rfl n rfl rfl _) ?_; refine Hid.out ?_)
  refine Lib.hid ?_
  go_wp2_with (refine wpList_v (op := ⟨some 9, _, _, _, _, _⟩) rfl (.agg (pvC 4 b (netZ n))) (build_netp _ _ _ _ rfl b (netZ n) rfl rfl rfl _) ?_; refine Hid.out ?_)
  refine Lib.hid ?_
  obtain ⟨N2, hN2⟩ : ∃ N, w1.heap.size = N := ⟨_, rfl⟩
  have HN2 := Lib.hid hN2
  clear hN2
  go_wp2_with (refine wpList_new (op := ⟨some 5, _, _, _, _, _⟩) rfl 32 rfl (pvC 0 0 Z0) zero_pvT N2 HN2.out ?_; intro w2 k1 b1 s1; refine Hid.out ?_)
  refine Lib.hid ?_
  have K5 := Lib.hid k1
  clear k1
  have lt_N1_N2 : N1 < N2 := by rw [← HN2.out]; exact K4.out.lt
  have le_HB_N2 : w.heap.size ≤ N2 := by rw [← HN2.out]; exact HB.out.size
  have K4n := Lib.hid (K4.out.below b1 K4.out.lt)
  clear K4
  have K4 := K4n
  clear K4n
  have HBn := Lib.hid (HB.out.trans (b1.mono HB.out.size))
  clear HB
  have HB := HBn
  clear HBn
  clear b1 HN2
  go_wp2_with (refine wpList_st rfl 32 (.tmp 5) (.tmp 9) rfl N2 0 rfl (.agg (pvC 4 b (netZ n))) (pvC 4 b (netZ n)) rfl rfl info_pv (all_pv _ _ _) K5.out (Nat.le_of_ble_eq_true rfl) (C' := pvC 4 b (netZ n)) (pv_over _ _ _ _ _ _) ?_; intro w3 q1; refine Hid.out ?_)
  refine Lib.hid ?_
  have K4n := Lib.hid (K4.out.far q1 (by omega))
  clear K4
  have K4 := K4n
  clear K4n
  have HBn := Lib.hid (HB.out.trans (q1.2.1 _ (by omega)))
  clear HB
  have HB := HBn
  clear HBn
  have K5n : Hid (Blk 32 w3 N2 (pvC 4 b (netZ n))) := Lib.hid q1.1
  clear K5
  have K5 := K5n
  clear K5n q1
  go_wp2_with (refine wpList_ld (op := ⟨some 10, _, _, _, _, _⟩) (by rfl) 32 (.tmp 5) rfl N2 0 rfl (pvC 4 b (netZ n)) _ K5.out.all Try.underlying32 rfl (hi_pv 4 (b : Int) (netZ n)) ?_; refine Hid.out ?_)
  refine Lib.hid ?_
  go_wp2_with fail
  refine (HR.out _).mono ?_
  rintro e w4 ⟨rfl, b1⟩
  have K4n := Lib.hid (K4.out.below b1 K4.out.lt)
  clear K4
  have K4 := K4n
  clear K4n
  have K5n := Lib.hid (K5.out.below b1 K5.out.lt)
  clear K5
  have K5 := K5n
  clear K5n
  have HBn := Lib.hid (HB.out.trans (b1.mono HB.out.size))
  clear HB
  have HB := HBn
  clear HBn
  clear b1
  go_wp2_with (refine wpList_st rfl 32 (.tmp 4) (.tmp 12) rfl N1 0 rfl (.agg (pvC 4 b (firstZ (netZ n) b))) (pvC 4 b (firstZ (netZ n) b)) rfl rfl info_pv (all_pv _ _ _) K4.out (Nat.le_of_ble_eq_true rfl) (C' := pvC 4 b (firstZ (netZ n) b)) (pv_over _ _ _ _ _ _) ?_; intro w5 q1; refine Hid.out ?_)
  refine Lib.hid ?_
  have K5n := Lib.hid (K5.out.far q1 (by omega))
  clear K5
  have K5 := K5n
  clear K5n
  have HBn := Lib.hid (HB.out.trans (q1.2.1 _ (by omega)))
  clear HB
  have HB := HBn
  clear HBn
  have K4n : Hid (Blk 32 w5 N1 (pvC 4 b (firstZ (netZ n) b))) := Lib.hid q1.1
  clear K4
  have K4 := K4n
  clear K4n q1
  go_wp2_with fail
  exact bodyPost_ret (results_1 rfl _ _ N1 (pvC 4 b (firstZ (netZ n) b)) Try.underlying32 rfl info_pv rfl K4.out) rfl ⟨rfl, HB.out⟩
theorem net0 (W : World) : Calls Try.prog 41 #[.int .u8 0, .int .i64 8] W fun e w' => e = .returned (.agg (pvC 4 8 nz0)) ∧ Below W.heap.size W w' := net_any 0 (by omega) 8 (by omega) W
theorem net1 (W : World) : Calls Try.prog 41 #[.int .u8 1, .int .i64 16] W fun e w' => e = .returned (.agg (pvC 4 16 nz1)) ∧ Below W.heap.size W w' := net_any 1 (by omega) 16 (by omega) W
set_option maxHeartbeats 16000000 in
set_option maxRecDepth 100000 in
theorem awake_any (w : World) : Calls Try.prog 12 #[] w fun e w' => e = .returned (.bool true) ∧ Below w.heap.size w w' := by
  have HN0 := Lib.hid net0
  have HN1 := Lib.hid net1
  go_enter Try.func12, Try.ntmps12
  go_wp2_with fail
  refine (new_any w).mono ?_
  rintro e w1 ⟨rfl, ht0, hb0⟩
  obtain ⟨s, hs⟩ : ∃ s, w.heap.size = s := ⟨_, rfl⟩
  rw [hs] at ht0
  rw [hs]
  have HS := Lib.hid hs
  have HT := Lib.hid ht0
  have HB : Hid (Below s w w1) := Lib.hid (hs ▸ hb0)
  clear hs ht0 hb0
  go_wp2_with (refine wpList_v (op := ⟨some 12, _, _, _, _, _⟩) rfl (.bool false) (eql_nil _ _ _ rfl s _ rfl rfl) ?_; refine Hid.out ?_)
  refine Lib.hid ?_
  go_wp2_with fail
  refine (HN0.out w1).mono ?_
  rintro e w2 ⟨rfl, b1⟩
  have HT2 := Lib.hid (HT.out.below b1 HT.out.lt)
  have HB2 : Hid (Below s w w2) := Lib.hid (HB.out.trans (b1.mono (by have := HT.out.lt; omega)))
  clear b1 HT HB
  go_wp2_with fail
  refine (ins_T s s ⟨.nil, .nil⟩ 4 8 1 nz0 nz0_b w2 HT2.out (Nat.le_of_lt HT2.out.lt) (by decide)).mono ?_
  rintro e w3 ⟨T1, rfl, n1⟩
  rw [if_pos nz0_f]
  have HN := Lib.hid n1
  have HT3 := Lib.hid n1.at_
  have HB3 := Lib.hid (HB2.out.trans (n1.below HT2.out (Nat.le_of_lt HT2.out.lt)))
  clear n1
  go_wp2_with fail
  refine (HN1.out w3).mono ?_
  rintro e w4 ⟨rfl, b1⟩
  have HT4 := Lib.hid (HT3.out.below b1 HT3.out.lt)
  have HB4 : Hid (Below s w w4) := Lib.hid (HB3.out.trans (b1.mono (by have := HT3.out.lt; omega)))
  clear b1 HT3 HB3
  have hs1 : T1.sz ≤ 100000 := Nat.le_trans HN.out.sz (by decide)
  go_wp2_with fail
  refine (ins_T s s T1 4 16 2 nz1 nz1_b w4 HT4.out (Nat.le_of_lt HT4.out.lt) hs1).mono ?_
  rintro e w5 ⟨T2, rfl, n2⟩
  rw [if_pos nz1_f]
  have HT5 := Lib.hid n2.at_
  have HB5 := Lib.hid (HB4.out.trans (n2.below HT4.out (Nat.le_of_lt HT4.out.lt)))
  have HG : Hid (∀ q, T2.G q = if some (false, btP 16 nz1) = some q then some 2 else if some (false, btP 8 nz0) = some q then some 1 else none) := Lib.hid (fun q => by
    rw [n2.g, HN.out.g, ky0, ky1]
    split
    · rfl
    · split
      · rfl
      · cases q with
        | mk a b => cases a <;> rfl)
  have HQ1 := Lib.hid (awQ1 HG.out n2.at_.ok)
  have HQ2 := Lib.hid (awQ2 HG.out n2.at_.ok)
  clear n2 hs1 HN HG HT4 HB4 HT2 HB2

  go_wp2_with fail
  have HF1 := Lib.hid (find_T s s T2 false adr1 adr1_b w5 HT5.out)
  rw [adr1_c, show famB false = 4 from rfl] at HF1
  refine HF1.out.mono ?_
  clear HF1
  rintro e w6 ⟨rfl, b1⟩
  rw [HQ1.out]
  have HT6 := Lib.hid (HT5.out.below b1 HT5.out.lt)
  have HB := Lib.hid (HB5.out.trans (b1.mono (Nat.le_of_lt HT5.out.lt)))
  have HSL : Hid (s ≤ w6.heap.size) := Lib.hid (Nat.le_of_lt HT6.out.lt)
  clear b1 HT5 HB5
  obtain ⟨N2, hN2⟩ : ∃ N, w6.heap.size = N := ⟨_, rfl⟩
  have HN2 := Lib.hid hN2
  clear hN2
  go_wp2_with (refine wpList_new (op := ⟨some 2, _, _, _, _, _⟩) rfl 32 rfl (pvC 0 0 Z0) zero_pvT N2 HN2.out ?_; intro w7 k1 b1 s1; refine Hid.out ?_)
  refine Lib.hid ?_
  have K2 := Lib.hid k1
  have HT7 := Lib.hid (HT6.out.below b1 HT6.out.lt)
  have HBn := Lib.hid (HB.out.trans (b1.mono HSL.out))
  clear HB
  have HB := HBn
  clear HBn
  have le2 : s ≤ N2 := by rw [← HN2.out]; exact HSL.out
  clear k1 b1 HT6 HN2
  go_wp2_with (refine wpList_st rfl 32 (.tmp 2) (.tmp 29) rfl N2 0 rfl (.agg (pvC 4 16 nz1)) (pvC 4 16 nz1) rfl rfl info_pv (all_pv _ _ _) K2.out (Nat.le_of_ble_eq_true rfl) (C' := pvC 4 16 nz1) (pv_over _ _ _ _ _ _) ?_; intro w8 q1; refine Hid.out ?_)
  refine Lib.hid ?_
  have HT8 := Lib.hid (ts_far HT7.out K2.out q1)
  have K2n : Hid (Blk 32 w8 N2 (pvC 4 16 nz1)) := Lib.hid q1.1
  have HBn := Lib.hid (HB.out.trans (q1.2.1 _ (by omega)))
  clear HB
  have HB := HBn
  clear HBn
  clear K2
  have K2 := K2n
  clear K2n
  clear q1 HT7
  go_wp2_with fail
  have HF1 := Lib.hid (find_T s s T2 false adr2 adr2_b w8 HT8.out)
  rw [adr2_c, show famB false = 4 from rfl] at HF1
  refine HF1.out.mono ?_
  clear HF1
  rintro e w9 ⟨rfl, b1⟩
  rw [HQ2.out]
  have K2n := Lib.hid (K2.out.below b1 K2.out.lt)
  clear K2
  have K2 := K2n
  clear K2n
  have HBn := Lib.hid (HB.out.trans (b1.mono (Nat.le_of_lt HT8.out.lt)))
  clear HB
  have HB := HBn
  clear HBn
  have HSL9 : Hid (s ≤ w9.heap.size) := Lib.hid (Nat.le_trans (Nat.le_of_lt HT8.out.lt) b1.size)
  clear b1 HT8 HQ1 HQ2 HSL
  obtain ⟨N6, hN6⟩ : ∃ N, w9.heap.size = N := ⟨_, rfl⟩
  have HN6 := Lib.hid hN6
  clear hN6
  go_wp2_with (refine wpList_new (op := ⟨some 6, _, _, _, _, _⟩) rfl 32 rfl (pvC 0 0 Z0) zero_pvT N6 HN6.out ?_; intro w10 k1 b1 s1; refine Hid.out ?_)
  refine Lib.hid ?_
  have K6 := Lib.hid k1
  have lt26 : N2 < N6 := by rw [← HN6.out]; exact K2.out.lt
  have K2n := Lib.hid (K2.out.below b1 K2.out.lt)
  clear K2
  have K2 := K2n
  clear K2n
  have HBn := Lib.hid (HB.out.trans (b1.mono HSL9.out))
  clear HB
  have HB := HBn
  clear HBn
  clear k1 b1 HN6
  go_wp2_with (refine wpList_st rfl 32 (.tmp 6) (.tmp 37) rfl N6 0 rfl (.agg (pvC 4 8 nz0)) (pvC 4 8 nz0) rfl rfl info_pv (all_pv _ _ _) K6.out (Nat.le_of_ble_eq_true rfl) (C' := pvC 4 8 nz0) (pv_over _ _ _ _ _ _) ?_; intro w11 q1; refine Hid.out ?_)
  refine Lib.hid ?_
  have K2n := Lib.hid (K2.out.far q1 (by omega))
  clear K2
  have K2 := K2n
  clear K2n
  have HBn := Lib.hid (HB.out.trans (q1.2.1 _ (by omega)))
  clear HB
  have HB := HBn
  clear HBn
  have K6n : Hid (Blk 32 w11 N6 (pvC 4 8 nz0)) := Lib.hid q1.1
  clear K6 q1
  have K6 := K6n
  clear K6n
  go_wp2_with fail
  have HSW := Lib.hid HB.out.size
  have HBX : Hid (Below s w w11) := HB
  clear HB
  have HB := HBX
  clear HBX
  rw [← HS.out] at HB
  refine wp_region_held_drew (S := fun w' => Blk 32 w' N2 (pvC 4 16 nz1) ∧ Blk 32 w' N6 (pvC 4 8 nz0) ∧ Below w.heap.size w w') (by kernel_rfl) ⟨K2.out, K6.out, HB.out.drew⟩ (fun hS => ?_)
  generalize hW21 : w11.drew = W21 at hS  ⊢
  clear hW21
  clear K2
  clear K6
  clear HB
  have K2 := Lib.hid hS.1
  have K6 := Lib.hid hS.2.1
  have HB := Lib.hid hS.2.2
  refine takeY (i := 0) (some 41) (v := .int .i64 0) rfl rfl (by kernel_rfl) (by kernel_rfl) (by kernel_rfl) (fun _ _ _ h => h) (by rfl) (fun w' hS => by clear hS; go_simp) hS ?_
  simp only [Act.put, List.setIfInBounds_toArray, List.set_cons_zero, List.set_cons_succ]
  refine takeY (i := 1) (some 42) (v := .bool true) rfl rfl (by kernel_rfl) (by kernel_rfl) (by kernel_rfl) (fun _ _ _ h => h) (by rfl) (fun w' hS => by clear hS; go_simp) hS ?_
  simp only [Act.put, List.setIfInBounds_toArray, List.set_cons_zero, List.set_cons_succ]
  refine takeY (i := 2) (some 43) (v := .bool true) rfl rfl (by kernel_rfl) (by kernel_rfl) (by kernel_rfl) (fun _ _ _ h => h) (by rfl) (fun w' hS => by clear hS; go_simp) hS ?_
  simp only [Act.put, List.setIfInBounds_toArray, List.set_cons_zero, List.set_cons_succ]
  refine takeY (i := 3) (some 44) (v := .bool true) rfl rfl (by kernel_rfl) (by kernel_rfl) (by kernel_rfl) (fun _ _ _ h => h) (by rfl) (fun w' hS => by clear hS; go_simp) hS ?_
  simp only [Act.put, List.setIfInBounds_toArray, List.set_cons_zero, List.set_cons_succ]
  refine takeY (i := 4) (some 45) (v := .bool true) rfl rfl (by kernel_rfl) (by kernel_rfl) (by kernel_rfl) (fun _ _ _ h => h) (by rfl) (fun w' hS => by clear hS; go_simp) hS ?_
  simp only [Act.put, List.setIfInBounds_toArray, List.set_cons_zero, List.set_cons_succ]
  refine takeY (i := 5) (some 46) (v := .bool true) rfl rfl (by kernel_rfl) (by kernel_rfl) (by kernel_rfl) (fun _ _ _ h => h) (by rfl) (fun w' hS => by clear hS; go_simp) hS ?_
  simp only [Act.put, List.setIfInBounds_toArray, List.set_cons_zero, List.set_cons_succ]
  refine takeY (i := 6) (some 47) (v := .int .i64 2) rfl rfl (by kernel_rfl) (by kernel_rfl) (by kernel_rfl) (fun _ _ _ h => h) (by rfl) (fun w' hS => by clear hS; go_simp) hS ?_
  simp only [Act.put, List.setIfInBounds_toArray, List.set_cons_zero, List.set_cons_succ]
  refine takeY (i := 7) (some 48) (v := .bool true) rfl rfl (by kernel_rfl) (by kernel_rfl) (by kernel_rfl) (fun _ _ _ h => h) (by rfl) (fun w' hS => by clear hS; go_simp) hS ?_
  simp only [Act.put, List.setIfInBounds_toArray, List.set_cons_zero, List.set_cons_succ]
  refine takeY (i := 8) (some 49) (v := .bool true) rfl rfl (by kernel_rfl) (by kernel_rfl) (by kernel_rfl) (fun _ _ _ h => h) (by rfl) (fun w' hS => by clear hS; go_simp) hS ?_
  simp only [Act.put, List.setIfInBounds_toArray, List.set_cons_zero, List.set_cons_succ]
  refine takeY (i := 9) (some 50) (v := .bool true) rfl rfl (by kernel_rfl) (by kernel_rfl) (by kernel_rfl) (fun _ _ _ h => h) (by rfl) (fun w' hS => by clear hS; go_simp) hS ?_
  simp only [Act.put, List.setIfInBounds_toArray, List.set_cons_zero, List.set_cons_succ]
  refine takeL (i := 10) (some 51) 32 (.tmp 2) N2 0 (pvC 4 16 nz1) _ rfl rfl (by kernel_rfl) (by kernel_rfl) (by kernel_rfl) (fun _ _ _ h => h) (by rfl) rfl rfl (fun w' hS => hS.1.all) Try.underlying32 rfl (hi_pv 4 16 nz1) hS ?_
  simp only [Act.put, List.setIfInBounds_toArray, List.set_cons_zero, List.set_cons_succ]
  refine takeC (i := 11) (some 52) 41 #[.int .u8 1, .int .i64 16] (.agg (pvC 4 16 nz1)) (R := fun w' => Below W21.heap.size W21 w') rfl rfl (by kernel_rfl) (by rfl) (by go_simp) (HN1.out _) (fun w' hb => ⟨hS.1.below hb hS.1.lt, hS.2.1.below hb hS.2.1.lt, hS.2.2.trans (hb.mono hS.2.2.size)⟩) (fun W22 hb1 hS2 => ?_)
  simp only [Act.put, List.setIfInBounds_toArray, List.set_cons_zero, List.set_cons_succ]
  clear K2
  clear K6
  clear HB
  clear hS hb1
  have hS := hS2
  clear hS2
  have K2 := Lib.hid hS.1
  have K6 := Lib.hid hS.2.1
  have HB := Lib.hid hS.2.2
  refine takeY (i := 12) (some 53) (v := .bool true) rfl rfl (by kernel_rfl) (by kernel_rfl) (by kernel_rfl) (fun _ _ _ h => h) (by rfl) (fun w' hS => by clear hS; exact eql_same _ _ _ _ rfl 4 16 nz1 nz1_b rfl rfl _) hS ?_
  simp only [Act.put, List.setIfInBounds_toArray, List.set_cons_zero, List.set_cons_succ]
  refine takeY (i := 13) (some 54) (v := .bool true) rfl rfl (by kernel_rfl) (by kernel_rfl) (by kernel_rfl) (fun _ _ _ h => h) (by rfl) (fun w' hS => by clear hS; go_simp) hS ?_
  simp only [Act.put, List.setIfInBounds_toArray, List.set_cons_zero, List.set_cons_succ]
  refine takeY (i := 14) (some 55) (v := .bool true) rfl rfl (by kernel_rfl) (by kernel_rfl) (by kernel_rfl) (fun _ _ _ h => h) (by rfl) (fun w' hS => by clear hS; go_simp) hS ?_
  simp only [Act.put, List.setIfInBounds_toArray, List.set_cons_zero, List.set_cons_succ]
  refine takeY (i := 15) (some 56) (v := .int .i64 0) rfl rfl (by kernel_rfl) (by kernel_rfl) (by kernel_rfl) (fun _ _ _ h => h) (by rfl) (fun w' hS => by clear hS; go_simp) hS ?_
  simp only [Act.put, List.setIfInBounds_toArray, List.set_cons_zero, List.set_cons_succ]
  refine takeY (i := 16) (some 57) (v := .bool true) rfl rfl (by kernel_rfl) (by kernel_rfl) (by kernel_rfl) (fun _ _ _ h => h) (by rfl) (fun w' hS => by clear hS; go_simp) hS ?_
  simp only [Act.put, List.setIfInBounds_toArray, List.set_cons_zero, List.set_cons_succ]
  refine takeY (i := 17) (some 58) (v := .bool true) rfl rfl (by kernel_rfl) (by kernel_rfl) (by kernel_rfl) (fun _ _ _ h => h) (by rfl) (fun w' hS => by clear hS; go_simp) hS ?_
  simp only [Act.put, List.setIfInBounds_toArray, List.set_cons_zero, List.set_cons_succ]
  refine takeY (i := 18) (some 59) (v := .bool true) rfl rfl (by kernel_rfl) (by kernel_rfl) (by kernel_rfl) (fun _ _ _ h => h) (by rfl) (fun w' hS => by clear hS; go_simp) hS ?_
  simp only [Act.put, List.setIfInBounds_toArray, List.set_cons_zero, List.set_cons_succ]
  refine takeY (i := 19) (some 60) (v := .bool true) rfl rfl (by kernel_rfl) (by kernel_rfl) (by kernel_rfl) (fun _ _ _ h => h) (by rfl) (fun w' hS => by clear hS; go_simp) hS ?_
  simp only [Act.put, List.setIfInBounds_toArray, List.set_cons_zero, List.set_cons_succ]
  refine takeY (i := 20) (some 61) (v := .bool true) rfl rfl (by kernel_rfl) (by kernel_rfl) (by kernel_rfl) (fun _ _ _ h => h) (by rfl) (fun w' hS => by clear hS; go_simp) hS ?_
  simp only [Act.put, List.setIfInBounds_toArray, List.set_cons_zero, List.set_cons_succ]
  refine takeY (i := 21) (some 62) (v := .bool true) rfl rfl (by kernel_rfl) (by kernel_rfl) (by kernel_rfl) (fun _ _ _ h => h) (by rfl) (fun w' hS => by clear hS; go_simp) hS ?_
  simp only [Act.put, List.setIfInBounds_toArray, List.set_cons_zero, List.set_cons_succ]
  refine takeY (i := 22) (some 63) (v := .int .i64 1) rfl rfl (by kernel_rfl) (by kernel_rfl) (by kernel_rfl) (fun _ _ _ h => h) (by rfl) (fun w' hS => by clear hS; go_simp) hS ?_
  simp only [Act.put, List.setIfInBounds_toArray, List.set_cons_zero, List.set_cons_succ]
  refine takeY (i := 23) (some 64) (v := .bool true) rfl rfl (by kernel_rfl) (by kernel_rfl) (by kernel_rfl) (fun _ _ _ h => h) (by rfl) (fun w' hS => by clear hS; go_simp) hS ?_
  simp only [Act.put, List.setIfInBounds_toArray, List.set_cons_zero, List.set_cons_succ]
  refine takeY (i := 24) (some 65) (v := .bool true) rfl rfl (by kernel_rfl) (by kernel_rfl) (by kernel_rfl) (fun _ _ _ h => h) (by rfl) (fun w' hS => by clear hS; go_simp) hS ?_
  simp only [Act.put, List.setIfInBounds_toArray, List.set_cons_zero, List.set_cons_succ]
  refine takeY (i := 25) (some 66) (v := .bool true) rfl rfl (by kernel_rfl) (by kernel_rfl) (by kernel_rfl) (fun _ _ _ h => h) (by rfl) (fun w' hS => by clear hS; go_simp) hS ?_
  simp only [Act.put, List.setIfInBounds_toArray, List.set_cons_zero, List.set_cons_succ]
  refine takeL (i := 26) (some 67) 32 (.tmp 6) N6 0 (pvC 4 8 nz0) _ rfl rfl (by kernel_rfl) (by kernel_rfl) (by kernel_rfl) (fun _ _ _ h => h) (by rfl) rfl rfl (fun w' hS => hS.2.1.all) Try.underlying32 rfl (hi_pv 4 8 nz0) hS ?_
  simp only [Act.put, List.setIfInBounds_toArray, List.set_cons_zero, List.set_cons_succ]
  refine takeC (i := 27) (some 68) 41 #[.int .u8 0, .int .i64 8] (.agg (pvC 4 8 nz0)) (R := fun w' => Below W22.heap.size W22 w') rfl rfl (by kernel_rfl) (by rfl) (by go_simp) (HN0.out _) (fun w' hb => ⟨hS.1.below hb hS.1.lt, hS.2.1.below hb hS.2.1.lt, hS.2.2.trans (hb.mono hS.2.2.size)⟩) (fun W23 hb1 hS2 => ?_)
  simp only [Act.put, List.setIfInBounds_toArray, List.set_cons_zero, List.set_cons_succ]
  clear K2
  clear K6
  clear HB
  clear hS hb1
  have hS := hS2
  clear hS2
  have K2 := Lib.hid hS.1
  have K6 := Lib.hid hS.2.1
  have HB := Lib.hid hS.2.2
  refine takeY (i := 28) (some 69) (v := .bool true) rfl rfl (by kernel_rfl) (by kernel_rfl) (by kernel_rfl) (fun _ _ _ h => h) (by rfl) (fun w' hS => by clear hS; exact eql_same _ _ _ _ rfl 4 8 nz0 nz0_b rfl rfl _) hS ?_
  simp only [Act.put, List.setIfInBounds_toArray, List.set_cons_zero, List.set_cons_succ]
  refine takeY (i := 29) (some 70) (v := .bool true) rfl rfl (by kernel_rfl) (by kernel_rfl) (by kernel_rfl) (fun _ _ _ h => h) (by rfl) (fun w' hS => by clear hS; go_simp) hS ?_
  simp only [Act.put, List.setIfInBounds_toArray, List.set_cons_zero, List.set_cons_succ]
  refine takeY (i := 30) (some 0) (v := .bool true) rfl rfl (by kernel_rfl) (by kernel_rfl) (by kernel_rfl) (fun _ _ _ h => h) (by rfl) (fun w' hS => by clear hS; go_simp) hS ?_
  simp only [Act.put, List.setIfInBounds_toArray, List.set_cons_zero, List.set_cons_succ]
  clear hS
  refine wpAnyH_done (by kernel_rfl) ?_ _
  go_wp2
  refine bodyPost_ret (v := .bool true) (by simp [results, Try.f12, go_sem]) rfl ?_
  exact ⟨rfl, HB.out⟩
end Go.Proofs.Ytldgfjcdlkbngaa
