/- The program's same, covers and side of two prefixes. Each theorem states its conditions. -/
import Derived.Test.YtjnbemopfhinbaaTrS
import Derived.Test.YtjnbemopfhinbaaPForm
namespace Go.Proofs.Ytjnbemopfhinbaa
open Go.RowKit
set_option linter.unusedVariables false
set_option linter.unusedSimpArgs false

theorem Blk.pvaddr {w : World} {g : Nat} {fam len : Int} {z : Nat → Int} (h : Blk 32 w g (pvC fam len z)) : w.rangeAt g 2 (agC z).toList := IsPv.addr h
theorem min_runN (o : Oper) (e : Operand → Value) (x y : Operand) (ho : o.op = .call { callee := .builtin .min, args := #[x, y], argTypes := #[3, 3] }) (m n : Nat) (h0 : e x = .int .i64 (m : Int)) (hc : e y = .int .i64 (n : Int)) (W : World) : (execOp e o).run Try.prog W = .ok (.value (.int .i64 ((min m n : Nat) : Int))) W := by
  unfold execOp
  simp only [ho]
  rcases Nat.lt_trichotomy m n with h | h | h
  · have h1 : (m : Int) < n := by omega
    have h2 : ¬ (n : Int) < m := by omega
    simp [go_sem, h0, hc, h1, h2]
    try omega
  · subst h
    simp [go_sem, h0, hc]
    try omega
  · have h1 : (n : Int) < m := by omega
    have h2 : ¬ (m : Int) < n := by omega
    simp [go_sem, h0, hc, h1, h2]
    try omega
theorem run_addN (o : Oper) (e : Operand → Value) (x y : Operand) (t u : TypeId) (ho : o.op = .binOp .add t x y u) (a b c : Nat) (h0 : e x = .int .i64 (a : Int)) (h1 : e y = .int .i64 (b : Int)) (hc : a + b = c) (hb : c ≤ 1000000) (W : World) : (execOp e o).run Try.prog W = .ok (.value (.int .i64 (c : Int))) W := by
  subst hc
  unfold execOp
  simp only [ho, h0, h1]
  simp [go_sem, IntKind.wrap, IntKind.signed, IntKind.bits]
  try omega
theorem run_mul8 (o : Oper) (e : Operand → Value) (y : Operand) (t u : TypeId) (ho : o.op = .binOp .mul t (.const (.int .i64 8)) y u) (a : Nat) (h0 : e (.const (.int .i64 8)) = .int .i64 8) (h1 : e y = .int .i64 (a : Int)) (hb : a ≤ 1000) (W : World) : (execOp e o).run Try.prog W = .ok (.value (.int .i64 ((8 * a : Nat) : Int))) W := by
  unfold execOp
  simp only [ho, h0, h1]
  simp [go_sem, IntKind.wrap, IntKind.signed, IntKind.bits]
  try omega
theorem run_xor8 (o : Oper) (e : Operand → Value) (x y : Operand) (t u : TypeId) (ho : o.op = .binOp .xor t x y u) (a b : Int) (ha : 0 ≤ a ∧ a ≤ 255) (hb : 0 ≤ b ∧ b ≤ 255) (h0 : e x = .int .u8 a) (h1 : e y = .int .u8 b) (k : Nat) (hk : xorZ a b = k) (W : World) : (execOp e o).run Try.prog W = .ok (.value (.int .u8 (k : Int))) W := by
  subst hk
  have h2 := u8_xor a b ha.1 (by omega) hb.1 (by omega)
  unfold execOp xorZ
  simp only [ho, h0, h1]
  rw [← h2]
  simp [go_sem]
theorem lss_no (o : Oper) (e : Operand → Value) (x : Operand) (ho : o.op = .binOp .lss 3 x (.const (.int .i64 16)) 3) (i : Nat) (hi : i = 16) (h0 : e x = .int .i64 (i : Int)) (h1 : e (.const (.int .i64 16)) = .int .i64 16) (W : World) : (execOp e o).run Try.prog W = .ok (.value (.bool false)) W := by
  subst hi
  unfold execOp
  simp only [ho, h0, h1]
  rfl
theorem ix_ag (o : Oper) (e : Operand → Value) (x y : Operand) (ho : o.op = .index 23 x y) (z : Nat → Int) (i : Nat) (hi : i < 16) (h0 : e x = .agg (agC z)) (h1 : e y = .int .i64 (i : Int)) (W : World) : (execOp e o).run Try.prog W = .ok (.value (.int .u8 (z i))) W := by
  have h2 := run_underlying Try.underlying23 W
  have h3 := agC_at z i hi
  have h4 : (i : Int) < 16 := by omega
  have h5 := size_u8 W
  have h6 : ∀ W, (isAgg 5).run Try.prog W = .ok false W := fun W => by kernel_rfl
  unfold execOp
  simp only [ho, h0, h1]
  simp [Instr.index, part, go_sem, h2, h3, h4, h5, h6]
  intro h
  omega
theorem lead8_any (u : Nat) (hu : u < 256) (w : World) : Calls Try.prog 95 #[.int .u8 (u : Int)] w fun e w' => e = .returned (.int .i64 (lz8 u : Int)) ∧ w = w' := by
  have H1 := Lib.hid (len8_any u hu)
  have h8 : lz8 u ≤ 8 := by unfold lz8; split <;> (try split) <;> (try split) <;> (try split) <;> (try split) <;> (try split) <;> (try split) <;> (try split) <;> omega
  obtain ⟨k, hk⟩ : ∃ k, lz8 u = k := ⟨_, rfl⟩
  rw [hk] at h8 H1 ⊢
  clear hk
  go_enter Try.func95, Try.ntmps95
  go_wp2_with fail
  refine (H1.out _).mono ?_
  rintro e w9 ⟨rfl, rfl⟩
  go_wp2
  refine bodyPost_ret (v := .int .i64 (k : Int)) ?_ rfl ⟨rfl, rfl⟩
  simp [results, Try.f95, go_sem, IntKind.wrap, IntKind.signed, IntKind.bits]
  try omega
set_option maxHeartbeats 8000000 in
set_option maxRecDepth 100000 in
theorem same_bit (fam fam' : Int) (n n' : Nat) (z z' : Nat → Int) (hz : Bytes z) (hz' : Bytes z') (hn : n ≤ 128) (hn' : n' ≤ 128) (w : World) :
    Calls Try.prog 83 #[.agg (pvC fam n z), .agg (pvC fam' n' z')] w fun e w' => e = .returned (.int .i64 ((Tr.lcp (btP n z) (btP n' z') : Nat) : Int)) ∧ Below w.heap.size w w' := by
  have HZ := Lib.hid hz
  have HZ' := Lib.hid hz'
  have HN := Lib.hid (And.intro hn hn')
  have HL := Lib.hid (fun d => @lcp_btP n n' d z z')
  obtain ⟨L, hL⟩ : ∃ L, Tr.lcp (btP n z) (btP n' z') = L := ⟨_, rfl⟩
  rw [hL] at HL ⊢
  clear hz hz' hn hn' hL
  go_enter Try.func83, Try.ntmps83
  have HB := Lib.hid (Below.refl w.heap.size w)
  obtain ⟨N1, hN1⟩ : ∃ N, w.heap.size = N := ⟨_, rfl⟩
  have HN1 := Lib.hid hN1
  clear hN1
  go_wp2_with (refine wpList_box (op := ⟨some 2, _, _, _, _, _⟩) rfl 32 (.tmp 0) rfl (pvC fam n z) rfl N1 HN1.out ?_; intro w1 k1 b1 s1; refine Hid.out ?_)
  refine Lib.hid ?_
  have KP := Lib.hid k1
  clear k1
  have le_HB_N1 : w.heap.size ≤ N1 := by rw [← HN1.out]; exact HB.out.size
  have HBn := Lib.hid (HB.out.trans (b1.mono HB.out.size))
  clear HB
  have HB := HBn
  clear HBn
  clear b1 HN1
  obtain ⟨N2, hN2⟩ : ∃ N, w1.heap.size = N := ⟨_, rfl⟩
  have HN2 := Lib.hid hN2
  clear hN2
  go_wp2_with (refine wpList_box (op := ⟨some 3, _, _, _, _, _⟩) rfl 32 (.tmp 1) rfl (pvC fam' n' z') rfl N2 HN2.out ?_; intro w2 k1 b1 s1; refine Hid.out ?_)
  refine Lib.hid ?_
  have KQ := Lib.hid k1
  clear k1
  have lt_N1_N2 : N1 < N2 := by rw [← HN2.out]; exact KP.out.lt
  have le_HB_N2 : w.heap.size ≤ N2 := by rw [← HN2.out]; exact HB.out.size
  have KPn := Lib.hid (KP.out.below b1 KP.out.lt)
  clear KP
  have KP := KPn
  clear KPn
  have HBn := Lib.hid (HB.out.trans (b1.mono HB.out.size))
  clear HB
  have HB := HBn
  clear HBn
  clear b1 HN2
  have c1 : w2.cell? ⟨N1, 1, none⟩ = some (.int .i64 (n : Int)) := (KP.out.cell 1).trans rfl
  have c2 : w2.cell? ⟨N2, 1, none⟩ = some (.int .i64 (n' : Int)) := (KQ.out.cell 1).trans rfl
  go_wp2_with (refine wpList_v (op := ⟨some 13, _, _, _, _, _⟩) rfl (.int .i64 ((min n n' : Nat) : Int)) (min_runN _ _ _ _ rfl n n' rfl rfl _) ?_; refine Hid.out ?_)
  refine Lib.hid ?_
  obtain ⟨M, hM⟩ : ∃ M, min n n' = M := ⟨_, rfl⟩
  rw [hM]
  have HM := Lib.hid hM
  clear hM c1 c2
  go_wp2_with (refine wpList_ld (op := ⟨some 15, _, _, _, _, _⟩) (by rfl) 23 (.tmp 14) rfl N1 2 rfl (agC z) _ KP.out.pvaddr Try.underlying23 rfl info_ag ?_; refine Hid.out ?_)
  refine Lib.hid ?_
  go_wp2_with fail
  go_loop [16] (fun t => ∃ i : Nat, i ≤ 16 ∧ t = .int .i64 i ∧ Hid (∀ j, j < i → z j = z' j)) (fun t => 16 - (intOf t).toNat)
  case atStart => exact ⟨0, by omega, rfl, Lib.hid (fun j hj => by omega)⟩
  case round =>
    obtain ⟨i, hi0, rfl, hall⟩ := hrel
    by_cases hi : i < 16
    · skip
      have HX := Lib.hid (xorZ_lt (HZ.out i) (HZ'.out i))
      obtain ⟨x, hx⟩ : ∃ x, xorZ (z i) (z' i) = x := ⟨_, rfl⟩
      have HXX := Lib.hid hx
      rw [hx] at HX
      clear hx
      have hi1 : (i : Int) < 16 := by omega
      have hi2 : (0 : Int) ≤ i := by omega
      have ca := agC_at z i hi
      have c2 : w2.cell? ⟨N2, 2 + i, none⟩ = some (.int .u8 (z' i)) := IsPv.at KQ.out i hi
      by_cases hx0 : x = 0
      · skip
        subst hx0
        go_wp2_with (first | (refine wpList_v (op := ⟨some 19, _, _, _, _, _⟩) rfl (.int .u8 (z i)) (ix_ag _ _ _ _ rfl z i (by omega) rfl rfl _) ?_; refine Hid.out ?_) | fail)
        refine Lib.hid ?_
        go_wp2_with (refine wpList_v (op := ⟨some 25, _, _, _, _, _⟩) rfl (.int .u8 ((0 : Nat) : Int)) (run_xor8 _ _ _ _ _ _ rfl (z i) (z' i) (HZ.out i) (HZ'.out i) rfl rfl 0 HXX.out _) ?_; refine Hid.out ?_)
        refine Lib.hid ?_
        go_wp2
        go_round
        case rel => exact ⟨i + 1, by omega, by go_num, Lib.hid (fun j hj => by
          by_cases e : j = i
          · subst e; exact (xorZ_0 (HZ.out j) (HZ'.out j)).1 HXX.out
          · exact hall.out j (by omega))⟩
        case measure => simp only [intOf]; omega
      · skip
        go_wp2_with (first | (refine wpList_v (op := ⟨some 19, _, _, _, _, _⟩) rfl (.int .u8 (z i)) (ix_ag _ _ _ _ rfl z i (by omega) rfl rfl _) ?_; refine Hid.out ?_) | fail)
        refine Lib.hid ?_
        have hx1 : ¬ (x : Int) = 0 := by omega
        go_wp2_with (refine wpList_v (op := ⟨some 25, _, _, _, _, _⟩) rfl (.int .u8 (x : Int)) (run_xor8 _ _ _ _ _ _ rfl (z i) (z' i) (HZ.out i) (HZ'.out i) rfl rfl x HXX.out _) ?_; refine Hid.out ?_)
        refine Lib.hid ?_
        have HF := Lib.hid (first_unlike HZ.out HZ'.out i hall.out (by rw [HXX.out]; exact hx0))
        rw [HXX.out] at HF
        have HLZ := Lib.hid (HL.out (8 * i + lz8 x) HF.out.1 (fun _ _ => HF.out.2))
        have HX0 := Lib.hid hx0
        clear hx0
        have H8 : Hid (lz8 x < 8) := Lib.hid (lz8_bits x HX.out HX0.out).1
        go_wp2_with fail
        refine (lead8_any x HX.out _).mono ?_
        rintro e w9 ⟨rfl, rfl⟩
        obtain ⟨q, hq⟩ : ∃ q, lz8 x = q := ⟨_, rfl⟩
        rw [hq] at H8 HLZ ⊢
        clear hq
        go_wp2_with (first | (refine wpList_v (op := ⟨some 30, _, _, _, _, _⟩) rfl (.int .i64 ((8 * i : Nat) : Int)) (run_mul8 _ _ _ _ _ rfl i rfl rfl (by omega) _) ?_; refine Hid.out ?_) | (refine wpList_v (op := ⟨some 33, _, _, _, _, _⟩) rfl (.int .i64 ((8 * i + q : Nat) : Int)) (run_addN _ _ _ _ _ _ rfl (8 * i) q (8 * i + q) rfl rfl rfl (by have := H8.out; omega) _) ?_; refine Hid.out ?_) | (refine wpList_v (op := ⟨some 34, _, _, _, _, _⟩) rfl (.int .i64 ((min M (8 * i + q) : Nat) : Int)) (min_runN _ _ _ _ rfl M (8 * i + q) rfl rfl _) ?_; refine Hid.out ?_))
        refine Lib.hid ?_
        go_wp2_with (first | (refine wpList_v (op := ⟨some 33, _, _, _, _, _⟩) rfl (.int .i64 ((8 * i + q : Nat) : Int)) (run_addN _ _ _ _ _ _ rfl (8 * i) q (8 * i + q) rfl rfl rfl (by have := H8.out; omega) _) ?_; refine Hid.out ?_))
        refine Lib.hid ?_
        go_wp2_with (first | (refine wpList_v (op := ⟨some 34, _, _, _, _, _⟩) rfl (.int .i64 ((min M (8 * i + q) : Nat) : Int)) (min_runN _ _ _ _ rfl M (8 * i + q) rfl rfl _) ?_; refine Hid.out ?_))
        refine Lib.hid ?_
        go_wp2
        exact ⟨.int .i64 ((min M (8 * i + q) : Nat) : Int), by simp [results, Try.f83, go_sem], by rw [HLZ.out, HM.out], HB.out⟩
    · skip
      have HI := Lib.hid (show i = 16 by omega)
      clear hi hi0
      have HLZ := Lib.hid (HL.out 128 (fun k hk => by unfold bitZ; rw [hall.out (k / 8) (by have := HI.out; omega)]) (fun h1 h2 => by have := HN.out; omega))
      go_wp2_with (refine wpList_v (op := ⟨some 17, _, _, _, _, _⟩) rfl (.bool false) (lss_no _ _ _ rfl i HI.out rfl rfl _) ?_; refine Hid.out ?_)
      refine Lib.hid ?_
      go_wp2
      have HLM : L = M := by rw [HLZ.out, HM.out, Nat.min_eq_left (by have := HN.out; have := HM.out; omega)]
      exact bodyPost_ret (v := .int .i64 (M : Int)) (by simp [results, Try.f83, go_sem]) rfl ⟨by rw [HLM], HB.out⟩

/-- a node's cells -/
def ndC (fam : Int) (n : Nat) (z : Nat → Int) (hb : Bool) (m : Int) (a b : Value) : Array Value := #[.int .u8 fam, .int .i64 n, .int .u8 (z 0), .int .u8 (z 1), .int .u8 (z 2), .int .u8 (z 3), .int .u8 (z 4), .int .u8 (z 5), .int .u8 (z 6), .int .u8 (z 7), .int .u8 (z 8), .int .u8 (z 9), .int .u8 (z 10), .int .u8 (z 11), .int .u8 (z 12), .int .u8 (z 13), .int .u8 (z 14), .int .u8 (z 15), .bool hb, .int .i64 m, a, b]
theorem ndC_pre (fam : Int) (n : Nat) (z : Nat → Int) (hb : Bool) (m : Int) (a b : Value) (j : Nat) (hj : j < 18) : (ndC fam n z hb m a b)[j]? = (pvC fam n z)[j]? := by
  rcases (by omega : j = 0 ∨ j = 1 ∨ j = 2 ∨ j = 3 ∨ j = 4 ∨ j = 5 ∨ j = 6 ∨ j = 7 ∨ j = 8 ∨ j = 9 ∨ j = 10 ∨ j = 11 ∨ j = 12 ∨ j = 13 ∨ j = 14 ∨ j = 15 ∨ j = 16 ∨ j = 17) with rfl | rfl | rfl | rfl | rfl | rfl | rfl | rfl | rfl | rfl | rfl | rfl | rfl | rfl | rfl | rfl | rfl | rfl <;> rfl
section
variable {w : World} {g n : Nat} {fam m : Int} {z : Nat → Int} {hb : Bool} {a b : Value}
theorem Blk.ndpv (h : Blk 106 w g (ndC fam n z hb m a b)) : w.rangeAt g 0 (pvC fam n z).toList := h.range fun j hj => by
  have hj' : j < 18 := hj
  rw [Nat.zero_add, ndC_pre _ _ _ _ _ _ _ j hj', Array.getElem?_toList]
end
theorem eqN_run (o : Oper) (e : Operand → Value) (x y : Operand) (ho : o.op = .binOp .eql 3 x y 3) (m n : Nat) (h0 : e x = .int .i64 (m : Int)) (h1 : e y = .int .i64 (n : Int)) (W : World) : (execOp e o).run Try.prog W = .ok (.value (.bool (decide (m = n)))) W := by
  unfold execOp
  simp only [ho, h0, h1]
  by_cases h : m = n
  · subst h; simp [go_sem]
  · have h2 : ((m : Int) == (n : Int)) = false := by simp; omega
    simp [go_sem, h, h2]
set_option maxHeartbeats 8000000 in
set_option maxRecDepth 100000 in
theorem covers_nd (g0 : Nat) (fam fam' m : Int) (n n' : Nat) (z z' : Nat → Int) (hb : Bool) (a b : Value) (hz : Bytes z) (hz' : Bytes z') (hn : n ≤ 128) (hn' : n' ≤ 128) (w : World) (hk : Blk 106 w g0 (ndC fam n z hb m a b)) :
    Calls Try.prog 72 #[.pointer (some ⟨g0, 0, none⟩), .agg (pvC fam' n' z')] w fun e w' => e = .returned (.bool (decide (btP n z <+: btP n' z'))) ∧ Below w.heap.size w w' := by
  have HS := Lib.hid (same_bit fam fam' n n' z z' hz hz' hn hn')
  have HV : Hid (decide (btP n z <+: btP n' z') = decide (Tr.lcp (btP n z) (btP n' z') = n)) := Lib.hid (by
    have h1 := Tr.lcp_cov (btP n z) (btP n' z')
    rw [btP_len] at h1
    exact decide_eq_decide.2 h1.symm)
  obtain ⟨L, hL⟩ : ∃ L, Tr.lcp (btP n z) (btP n' z') = L := ⟨_, rfl⟩
  rw [hL] at HS HV
  obtain ⟨B, hB⟩ : ∃ B, decide (btP n z <+: btP n' z') = B := ⟨_, rfl⟩
  rw [hB] at HV ⊢
  have KN := Lib.hid hk
  clear hL hB hz hz' hn hn' hk
  go_enter Try.func72, Try.ntmps72
  have HB := Lib.hid (Below.refl w.heap.size w)
  obtain ⟨N1, hN1⟩ : ∃ N, w.heap.size = N := ⟨_, rfl⟩
  have HN1 := Lib.hid hN1
  clear hN1
  go_wp2_with (refine wpList_box (op := ⟨some 3, _, _, _, _, _⟩) rfl 32 (.tmp 1) rfl (pvC fam' n' z') rfl N1 HN1.out ?_; intro w1 k1 b1 s1; refine Hid.out ?_)
  refine Lib.hid ?_
  have KQ := Lib.hid k1
  clear k1
  have lt_g0_N1 : g0 < N1 := by rw [← HN1.out]; exact KN.out.lt
  have le_HB_N1 : w.heap.size ≤ N1 := by rw [← HN1.out]; exact HB.out.size
  have KNn := Lib.hid (KN.out.below b1 KN.out.lt)
  clear KN
  have KN := KNn
  clear KNn
  have HBn := Lib.hid (HB.out.trans (b1.mono HB.out.size))
  clear HB
  have HB := HBn
  clear HBn
  clear b1 HN1
  go_wp2_with fail
  refine wp_region_held_drew (S := fun w' => Blk 106 w' g0 (ndC fam n z hb m a b) ∧ Blk 32 w' N1 (pvC fam' n' z') ∧ Below w.heap.size w w') (by kernel_rfl) ⟨KN.out, KQ.out, HB.out.drew⟩ (fun hS => ?_)
  generalize hW2 : w1.drew = W2 at hS  ⊢
  clear hW2
  clear KN
  clear KQ
  clear HB
  have KN := Lib.hid hS.1
  have KQ := Lib.hid hS.2.1
  have HB := Lib.hid hS.2.2
  refine takeY (i := 0) (some 5) (v := .pointer (some ⟨g0, 0, none⟩)) rfl rfl (by kernel_rfl) (by kernel_rfl) (by kernel_rfl) (fun _ _ _ h => h) (by rfl) (fun w' hS => by clear hS; go_simp) hS ?_
  simp only [Act.put, List.setIfInBounds_toArray, List.set_cons_zero, List.set_cons_succ]
  refine takeY (i := 1) (some 6) (v := .pointer (some ⟨g0, 0, none⟩)) rfl rfl (by kernel_rfl) (by kernel_rfl) (by kernel_rfl) (fun _ _ _ h => h) (by rfl) (fun w' hS => by clear hS; go_simp) hS ?_
  simp only [Act.put, List.setIfInBounds_toArray, List.set_cons_zero, List.set_cons_succ]
  refine takeY (i := 2) (some 7) (v := .pointer (some ⟨g0, 0, none⟩)) rfl rfl (by kernel_rfl) (by kernel_rfl) (by kernel_rfl) (fun _ _ _ h => h) (by rfl) (fun w' hS => by clear hS; go_simp) hS ?_
  simp only [Act.put, List.setIfInBounds_toArray, List.set_cons_zero, List.set_cons_succ]
  refine takeL (i := 3) (some 8) 32 (.tmp 7) g0 0 (pvC fam n z) _ rfl rfl (by kernel_rfl) (by kernel_rfl) (by kernel_rfl) (fun _ _ _ h => h) (by rfl) rfl rfl (fun w' hS => hS.1.ndpv) Try.underlying32 rfl (hi_pv fam (n : Int) z) hS ?_
  simp only [Act.put, List.setIfInBounds_toArray, List.set_cons_zero, List.set_cons_succ]
  refine takeL (i := 4) (some 9) 32 (.tmp 3) N1 0 (pvC fam' n' z') _ rfl rfl (by kernel_rfl) (by kernel_rfl) (by kernel_rfl) (fun _ _ _ h => h) (by rfl) rfl rfl (fun w' hS => hS.2.1.all) Try.underlying32 rfl (hi_pv fam' (n' : Int) z') hS ?_
  simp only [Act.put, List.setIfInBounds_toArray, List.set_cons_zero, List.set_cons_succ]
  refine takeY (i := 6) (some 11) (v := .pointer (some ⟨g0, 0, none⟩)) rfl rfl (by kernel_rfl) (by kernel_rfl) (by kernel_rfl) (fun _ _ _ h => h) (by rfl) (fun w' hS => by clear hS; go_simp) hS ?_
  simp only [Act.put, List.setIfInBounds_toArray, List.set_cons_zero, List.set_cons_succ]
  refine takeY (i := 7) (some 12) (v := .pointer (some ⟨g0, 0, none⟩)) rfl rfl (by kernel_rfl) (by kernel_rfl) (by kernel_rfl) (fun _ _ _ h => h) (by rfl) (fun w' hS => by clear hS; go_simp) hS ?_
  simp only [Act.put, List.setIfInBounds_toArray, List.set_cons_zero, List.set_cons_succ]
  refine takeY (i := 8) (some 13) (v := .pointer (some ⟨g0, 0, none⟩)) rfl rfl (by kernel_rfl) (by kernel_rfl) (by kernel_rfl) (fun _ _ _ h => h) (by rfl) (fun w' hS => by clear hS; go_simp) hS ?_
  simp only [Act.put, List.setIfInBounds_toArray, List.set_cons_zero, List.set_cons_succ]
  refine takeY (i := 9) (some 14) (v := .pointer (some ⟨g0, 1, none⟩)) rfl rfl (by kernel_rfl) (by kernel_rfl) (by kernel_rfl) (fun _ _ _ h => h) (by rfl) (fun w' hS => by clear hS; go_simp) hS ?_
  simp only [Act.put, List.setIfInBounds_toArray, List.set_cons_zero, List.set_cons_succ]
  refine takeY (i := 10) (some 15) (v := .int .i64 n) rfl rfl (by kernel_rfl) (by kernel_rfl) (by kernel_rfl) (fun _ _ _ h => h) (by rfl) (fun w' hS => by (have c9 : w'.cell? ⟨g0, 1, none⟩ = some (.int .i64 n) := (hS.1.cell 1).trans rfl; clear hS; go_simp)) hS ?_
  simp only [Act.put, List.setIfInBounds_toArray, List.set_cons_zero, List.set_cons_succ]
  refine takeC (i := 5) (some 10) 83 #[.agg (pvC fam n z), .agg (pvC fam' n' z')] (.int .i64 (L : Int)) (R := fun w' => Below W2.heap.size W2 w') rfl rfl (by kernel_rfl) (by rfl) (by go_simp) (HS.out _) (fun w' hb => ⟨hS.1.below hb hS.1.lt, hS.2.1.below hb hS.2.1.lt, hS.2.2.trans (hb.mono hS.2.2.size)⟩) (fun W3 hb1 hS2 => ?_)
  simp only [Act.put, List.setIfInBounds_toArray, List.set_cons_zero, List.set_cons_succ]
  clear KN
  clear KQ
  clear HB
  clear hS hb1
  have hS := hS2
  clear hS2
  have KN := Lib.hid hS.1
  have KQ := Lib.hid hS.2.1
  have HB := Lib.hid hS.2.2
  refine takeY (i := 11) (some 16) (v := .bool B) rfl rfl (by kernel_rfl) (by kernel_rfl) (by kernel_rfl) (fun _ _ _ h => h) (by rfl) (fun w' hS => by clear hS; (refine (eqN_run _ _ _ _ rfl L n rfl rfl _).trans ?_; rw [← HV.out])) hS ?_
  simp only [Act.put, List.setIfInBounds_toArray, List.set_cons_zero, List.set_cons_succ]
  refine takeY (i := 12) (some 4) (v := .bool B) rfl rfl (by kernel_rfl) (by kernel_rfl) (by kernel_rfl) (fun _ _ _ h => h) (by rfl) (fun w' hS => by clear hS; go_simp) hS ?_
  simp only [Act.put, List.setIfInBounds_toArray, List.set_cons_zero, List.set_cons_succ]
  clear hS
  refine wpAnyH_done (by kernel_rfl) ?_ _
  go_wp2
  go_ret
  exact ⟨rfl, HB.out⟩
set_option maxHeartbeats 8000000 in
set_option maxRecDepth 100000 in
theorem side_nd (g0 : Nat) (fam fam' m : Int) (n n' : Nat) (z z' : Nat → Int) (hb : Bool) (a b : Value) (hz' : Bytes z') (hn : n < n') (hn' : n' ≤ 128) (w : World) (hk : Blk 106 w g0 (ndC fam n z hb m a b)) :
    Calls Try.prog 74 #[.pointer (some ⟨g0, 0, none⟩), .agg (pvC fam' n' z')] w fun e w' => e = .returned (.int .u8 (if Tr.side (btP n' z') n then 1 else 0)) ∧ Below w.heap.size w w' := by
  have HV : Hid ((if Tr.side (btP n' z') n then 1 else 0) = bitZ z' n) := Lib.hid (by
    unfold Tr.side
    rw [btP_at hn, Option.getD_some]
    rcases bit_01 z' n with h | h <;> rw [h] <;> rfl)
  obtain ⟨q, r, hr, hq, hnq⟩ : ∃ q r, r < 8 ∧ q < 16 ∧ n = 8 * q + r := ⟨n / 8, n % 8, by omega, by omega, by omega⟩
  have h1 : (n : Int).tdiv 8 = (q : Int) := by rw [Int.tdiv_eq_ediv_of_nonneg (by omega)]; omega
  have h2 : (n : Int).tmod 8 = (r : Int) := by rw [Int.tmod_eq_emod_of_nonneg (by omega)]; omega
  have hzq := hz' q
  have HB2 : Hid (bitZ z' n = z' q / 2 ^ (7 - r) % 2) := Lib.hid (by unfold bitZ; rw [show n / 8 = q by omega, show n % 8 = r by omega])
  rw [HV.out, HB2.out]
  have KN := Lib.hid hk
  clear hk HV HB2 hn hn' hz' hnq
  rcases (by omega : r = 0 ∨ r = 1 ∨ r = 2 ∨ r = 3 ∨ r = 4 ∨ r = 5 ∨ r = 6 ∨ r = 7) with rfl | rfl | rfl | rfl | rfl | rfl | rfl | rfl
  · skip
    have hP : (2 : Int) ^ (7 - 0) = 128 := by decide
    rw [hP]
    have hA := Lib.hid (and_P (z' q) hzq 7 128 (by omega) (by decide))
    go_enter Try.func74, Try.ntmps74
    have HB := Lib.hid (Below.refl w.heap.size w)
    obtain ⟨N1, hN1⟩ : ∃ N, w.heap.size = N := ⟨_, rfl⟩
    have HN1 := Lib.hid hN1
    clear hN1
    go_wp2_with (refine wpList_box (op := ⟨some 3, _, _, _, _, _⟩) rfl 32 (.tmp 1) rfl (pvC fam' n' z') rfl N1 HN1.out ?_; intro w1 k1 b1 s1; refine Hid.out ?_)
    refine Lib.hid ?_
    have KQ := Lib.hid k1
    clear k1
    have lt_g0_N1 : g0 < N1 := by rw [← HN1.out]; exact KN.out.lt
    have le_HB_N1 : w.heap.size ≤ N1 := by rw [← HN1.out]; exact HB.out.size
    have KNn := Lib.hid (KN.out.below b1 KN.out.lt)
    clear KN
    have KN := KNn
    clear KNn
    have HBn := Lib.hid (HB.out.trans (b1.mono HB.out.size))
    clear HB
    have HB := HBn
    clear HBn
    clear b1 HN1
    have c1 : w1.cell? ⟨g0, 1, none⟩ = some (.int .i64 (n : Int)) := (KN.out.cell 1).trans rfl
    have c2 : w1.cell? ⟨N1, 2 + q, none⟩ = some (.int .u8 (z' q)) := IsPv.at KQ.out q hq
    have hq0 : (0 : Int) ≤ (q : Int) := by omega
    have hq1 : (q : Int) < 16 := by omega
    go_wp2
    go_ret
    exact ⟨ret_u8 (by have := hA.out; simpa using this), HB.out⟩
  · skip
    have hP : (2 : Int) ^ (7 - 1) = 64 := by decide
    rw [hP]
    have hA := Lib.hid (and_P (z' q) hzq 6 64 (by omega) (by decide))
    go_enter Try.func74, Try.ntmps74
    have HB := Lib.hid (Below.refl w.heap.size w)
    obtain ⟨N1, hN1⟩ : ∃ N, w.heap.size = N := ⟨_, rfl⟩
    have HN1 := Lib.hid hN1
    clear hN1
    go_wp2_with (refine wpList_box (op := ⟨some 3, _, _, _, _, _⟩) rfl 32 (.tmp 1) rfl (pvC fam' n' z') rfl N1 HN1.out ?_; intro w1 k1 b1 s1; refine Hid.out ?_)
    refine Lib.hid ?_
    have KQ := Lib.hid k1
    clear k1
    have lt_g0_N1 : g0 < N1 := by rw [← HN1.out]; exact KN.out.lt
    have le_HB_N1 : w.heap.size ≤ N1 := by rw [← HN1.out]; exact HB.out.size
    have KNn := Lib.hid (KN.out.below b1 KN.out.lt)
    clear KN
    have KN := KNn
    clear KNn
    have HBn := Lib.hid (HB.out.trans (b1.mono HB.out.size))
    clear HB
    have HB := HBn
    clear HBn
    clear b1 HN1
    have c1 : w1.cell? ⟨g0, 1, none⟩ = some (.int .i64 (n : Int)) := (KN.out.cell 1).trans rfl
    have c2 : w1.cell? ⟨N1, 2 + q, none⟩ = some (.int .u8 (z' q)) := IsPv.at KQ.out q hq
    have hq0 : (0 : Int) ≤ (q : Int) := by omega
    have hq1 : (q : Int) < 16 := by omega
    go_wp2
    go_ret
    exact ⟨ret_u8 (by have := hA.out; simpa using this), HB.out⟩
  · skip
    have hP : (2 : Int) ^ (7 - 2) = 32 := by decide
    rw [hP]
    have hA := Lib.hid (and_P (z' q) hzq 5 32 (by omega) (by decide))
    go_enter Try.func74, Try.ntmps74
    have HB := Lib.hid (Below.refl w.heap.size w)
    obtain ⟨N1, hN1⟩ : ∃ N, w.heap.size = N := ⟨_, rfl⟩
    have HN1 := Lib.hid hN1
    clear hN1
    go_wp2_with (refine wpList_box (op := ⟨some 3, _, _, _, _, _⟩) rfl 32 (.tmp 1) rfl (pvC fam' n' z') rfl N1 HN1.out ?_; intro w1 k1 b1 s1; refine Hid.out ?_)
    refine Lib.hid ?_
    have KQ := Lib.hid k1
    clear k1
    have lt_g0_N1 : g0 < N1 := by rw [← HN1.out]; exact KN.out.lt
    have le_HB_N1 : w.heap.size ≤ N1 := by rw [← HN1.out]; exact HB.out.size
    have KNn := Lib.hid (KN.out.below b1 KN.out.lt)
    clear KN
    have KN := KNn
    clear KNn
    have HBn := Lib.hid (HB.out.trans (b1.mono HB.out.size))
    clear HB
    have HB := HBn
    clear HBn
    clear b1 HN1
    have c1 : w1.cell? ⟨g0, 1, none⟩ = some (.int .i64 (n : Int)) := (KN.out.cell 1).trans rfl
    have c2 : w1.cell? ⟨N1, 2 + q, none⟩ = some (.int .u8 (z' q)) := IsPv.at KQ.out q hq
    have hq0 : (0 : Int) ≤ (q : Int) := by omega
    have hq1 : (q : Int) < 16 := by omega
    go_wp2
    go_ret
    exact ⟨ret_u8 (by have := hA.out; simpa using this), HB.out⟩
  · skip
    have hP : (2 : Int) ^ (7 - 3) = 16 := by decide
    rw [hP]
    have hA := Lib.hid (and_P (z' q) hzq 4 16 (by omega) (by decide))
    go_enter Try.func74, Try.ntmps74
    have HB := Lib.hid (Below.refl w.heap.size w)
    obtain ⟨N1, hN1⟩ : ∃ N, w.heap.size = N := ⟨_, rfl⟩
    have HN1 := Lib.hid hN1
    clear hN1
    go_wp2_with (refine wpList_box (op := ⟨some 3, _, _, _, _, _⟩) rfl 32 (.tmp 1) rfl (pvC fam' n' z') rfl N1 HN1.out ?_; intro w1 k1 b1 s1; refine Hid.out ?_)
    refine Lib.hid ?_
    have KQ := Lib.hid k1
    clear k1
    have lt_g0_N1 : g0 < N1 := by rw [← HN1.out]; exact KN.out.lt
    have le_HB_N1 : w.heap.size ≤ N1 := by rw [← HN1.out]; exact HB.out.size
    have KNn := Lib.hid (KN.out.below b1 KN.out.lt)
    clear KN
    have KN := KNn
    clear KNn
    have HBn := Lib.hid (HB.out.trans (b1.mono HB.out.size))
    clear HB
    have HB := HBn
    clear HBn
    clear b1 HN1
    have c1 : w1.cell? ⟨g0, 1, none⟩ = some (.int .i64 (n : Int)) := (KN.out.cell 1).trans rfl
    have c2 : w1.cell? ⟨N1, 2 + q, none⟩ = some (.int .u8 (z' q)) := IsPv.at KQ.out q hq
    have hq0 : (0 : Int) ≤ (q : Int) := by omega
    have hq1 : (q : Int) < 16 := by omega
    go_wp2
    go_ret
    exact ⟨ret_u8 (by have := hA.out; simpa using this), HB.out⟩
  · skip
    have hP : (2 : Int) ^ (7 - 4) = 8 := by decide
    rw [hP]
    have hA := Lib.hid (and_P (z' q) hzq 3 8 (by omega) (by decide))
    go_enter Try.func74, Try.ntmps74
    have HB := Lib.hid (Below.refl w.heap.size w)
    obtain ⟨N1, hN1⟩ : ∃ N, w.heap.size = N := ⟨_, rfl⟩
    have HN1 := Lib.hid hN1
    clear hN1
    go_wp2_with (refine wpList_box (op := ⟨some 3, _, _, _, _, _⟩) rfl 32 (.tmp 1) rfl (pvC fam' n' z') rfl N1 HN1.out ?_; intro w1 k1 b1 s1; refine Hid.out ?_)
    refine Lib.hid ?_
    have KQ := Lib.hid k1
    clear k1
    have lt_g0_N1 : g0 < N1 := by rw [← HN1.out]; exact KN.out.lt
    have le_HB_N1 : w.heap.size ≤ N1 := by rw [← HN1.out]; exact HB.out.size
    have KNn := Lib.hid (KN.out.below b1 KN.out.lt)
    clear KN
    have KN := KNn
    clear KNn
    have HBn := Lib.hid (HB.out.trans (b1.mono HB.out.size))
    clear HB
    have HB := HBn
    clear HBn
    clear b1 HN1
    have c1 : w1.cell? ⟨g0, 1, none⟩ = some (.int .i64 (n : Int)) := (KN.out.cell 1).trans rfl
    have c2 : w1.cell? ⟨N1, 2 + q, none⟩ = some (.int .u8 (z' q)) := IsPv.at KQ.out q hq
    have hq0 : (0 : Int) ≤ (q : Int) := by omega
    have hq1 : (q : Int) < 16 := by omega
    go_wp2
    go_ret
    exact ⟨ret_u8 (by have := hA.out; simpa using this), HB.out⟩
  · skip
    have hP : (2 : Int) ^ (7 - 5) = 4 := by decide
    rw [hP]
    have hA := Lib.hid (and_P (z' q) hzq 2 4 (by omega) (by decide))
    go_enter Try.func74, Try.ntmps74
    have HB := Lib.hid (Below.refl w.heap.size w)
    obtain ⟨N1, hN1⟩ : ∃ N, w.heap.size = N := ⟨_, rfl⟩
    have HN1 := Lib.hid hN1
    clear hN1
    go_wp2_with (refine wpList_box (op := ⟨some 3, _, _, _, _, _⟩) rfl 32 (.tmp 1) rfl (pvC fam' n' z') rfl N1 HN1.out ?_; intro w1 k1 b1 s1; refine Hid.out ?_)
    refine Lib.hid ?_
    have KQ := Lib.hid k1
    clear k1
    have lt_g0_N1 : g0 < N1 := by rw [← HN1.out]; exact KN.out.lt
    have le_HB_N1 : w.heap.size ≤ N1 := by rw [← HN1.out]; exact HB.out.size
    have KNn := Lib.hid (KN.out.below b1 KN.out.lt)
    clear KN
    have KN := KNn
    clear KNn
    have HBn := Lib.hid (HB.out.trans (b1.mono HB.out.size))
    clear HB
    have HB := HBn
    clear HBn
    clear b1 HN1
    have c1 : w1.cell? ⟨g0, 1, none⟩ = some (.int .i64 (n : Int)) := (KN.out.cell 1).trans rfl
    have c2 : w1.cell? ⟨N1, 2 + q, none⟩ = some (.int .u8 (z' q)) := IsPv.at KQ.out q hq
    have hq0 : (0 : Int) ≤ (q : Int) := by omega
    have hq1 : (q : Int) < 16 := by omega
    go_wp2
    go_ret
    exact ⟨ret_u8 (by have := hA.out; simpa using this), HB.out⟩
  · skip
    have hP : (2 : Int) ^ (7 - 6) = 2 := by decide
    rw [hP]
    have hA := Lib.hid (and_P (z' q) hzq 1 2 (by omega) (by decide))
    go_enter Try.func74, Try.ntmps74
    have HB := Lib.hid (Below.refl w.heap.size w)
    obtain ⟨N1, hN1⟩ : ∃ N, w.heap.size = N := ⟨_, rfl⟩
    have HN1 := Lib.hid hN1
    clear hN1
    go_wp2_with (refine wpList_box (op := ⟨some 3, _, _, _, _, _⟩) rfl 32 (.tmp 1) rfl (pvC fam' n' z') rfl N1 HN1.out ?_; intro w1 k1 b1 s1; refine Hid.out ?_)
    refine Lib.hid ?_
    have KQ := Lib.hid k1
    clear k1
    have lt_g0_N1 : g0 < N1 := by rw [← HN1.out]; exact KN.out.lt
    have le_HB_N1 : w.heap.size ≤ N1 := by rw [← HN1.out]; exact HB.out.size
    have KNn := Lib.hid (KN.out.below b1 KN.out.lt)
    clear KN
    have KN := KNn
    clear KNn
    have HBn := Lib.hid (HB.out.trans (b1.mono HB.out.size))
    clear HB
    have HB := HBn
    clear HBn
    clear b1 HN1
    have c1 : w1.cell? ⟨g0, 1, none⟩ = some (.int .i64 (n : Int)) := (KN.out.cell 1).trans rfl
    have c2 : w1.cell? ⟨N1, 2 + q, none⟩ = some (.int .u8 (z' q)) := IsPv.at KQ.out q hq
    have hq0 : (0 : Int) ≤ (q : Int) := by omega
    have hq1 : (q : Int) < 16 := by omega
    go_wp2
    go_ret
    exact ⟨ret_u8 (by have := hA.out; simpa using this), HB.out⟩
  · skip
    have hP : (2 : Int) ^ (7 - 7) = 1 := by decide
    rw [hP]
    have hA := Lib.hid (and_P (z' q) hzq 0 1 (by omega) (by decide))
    go_enter Try.func74, Try.ntmps74
    have HB := Lib.hid (Below.refl w.heap.size w)
    obtain ⟨N1, hN1⟩ : ∃ N, w.heap.size = N := ⟨_, rfl⟩
    have HN1 := Lib.hid hN1
    clear hN1
    go_wp2_with (refine wpList_box (op := ⟨some 3, _, _, _, _, _⟩) rfl 32 (.tmp 1) rfl (pvC fam' n' z') rfl N1 HN1.out ?_; intro w1 k1 b1 s1; refine Hid.out ?_)
    refine Lib.hid ?_
    have KQ := Lib.hid k1
    clear k1
    have lt_g0_N1 : g0 < N1 := by rw [← HN1.out]; exact KN.out.lt
    have le_HB_N1 : w.heap.size ≤ N1 := by rw [← HN1.out]; exact HB.out.size
    have KNn := Lib.hid (KN.out.below b1 KN.out.lt)
    clear KN
    have KN := KNn
    clear KNn
    have HBn := Lib.hid (HB.out.trans (b1.mono HB.out.size))
    clear HB
    have HB := HBn
    clear HBn
    clear b1 HN1
    have c1 : w1.cell? ⟨g0, 1, none⟩ = some (.int .i64 (n : Int)) := (KN.out.cell 1).trans rfl
    have c2 : w1.cell? ⟨N1, 2 + q, none⟩ = some (.int .u8 (z' q)) := IsPv.at KQ.out q hq
    have hq0 : (0 : Int) ≤ (q : Int) := by omega
    have hq1 : (q : Int) < 16 := by omega
    go_wp2
    go_ret
    exact ⟨ret_u8 (by have := hA.out; simpa using this), HB.out⟩
end Go.Proofs.Ytjnbemopfhinbaa
