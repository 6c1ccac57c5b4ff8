/- dis.isBeyond, isAhead; the document's number; the search for a member beyond; check and the document's. Each theorem states its conditions. -/
import Derived.Test.YtahflakanbhapaaICells
import Derived.LoopN
import Derived.Deep.DeepCutAuto
namespace Go.Proofs.Ytahflakanbhapaa
open Go.RowKit
set_option linter.unusedVariables false

set_option maxHeartbeats 4000000 in
set_option maxRecDepth 100000 in
theorem beyond_any (m : Mb) (w : World) :
    Calls Try.prog 26 #[.agg (mbC m)] w fun e w' => e = .returned (.bool (decide (127 < m.pr))) ∧ Below w.heap.size w w' := by
  go_enter Try.func26, Try.ntmps26
  have HB := Lib.hid (Below.refl w.heap.size w)
  obtain ⟨N1, hN1⟩ : ∃ N, w.heap.size = N := ⟨_, rfl⟩
  have HN1 := Lib.hid hN1
  clear hN1
  go_wp2_with (refine wpList_box (op := ⟨some 1, _, _, _, _, _⟩) rfl 40 (.tmp 0) rfl (mbC m) rfl N1 HN1.out ?_; intro w1 k1 b1 s1; refine Hid.out ?_)
  refine Lib.hid ?_
  have K1 := Lib.hid k1
  clear k1
  have le_HB_N1 : w.heap.size ≤ N1 := by rw [← HN1.out]; exact HB.out.size
  have HBn := Lib.hid (HB.out.trans (b1.mono HB.out.size))
  clear HB
  have HB := HBn
  clear HBn
  clear b1 HN1
  have c1 : w1.cell? ⟨N1, 12, none⟩ = some (.int .u8 m.pr) := (K1.out.cell 12).trans rfl
  go_wp2_with fail
  go_ret
  exact ⟨by simp, HB.out⟩
set_option maxHeartbeats 4000000 in
set_option maxRecDepth 100000 in
theorem ahead_any (m o : Mb) (w : World) (hm : MbOk m) (ho : MbOk o) :
    Calls Try.prog 19 #[.agg (mbC m), .agg (mbC o)] w fun e w' => e = .returned (.bool (decide (keyM o < keyM m))) ∧ Below w.heap.size w w' := by
  obtain ⟨_, hmk, _, _⟩ := hm
  obtain ⟨_, hok, _, _⟩ := ho
  have HM := Lib.hid hmk
  have HO := Lib.hid hok
  have bm := num6_bd hmk
  have bo := num6_bd hok
  have BM := Lib.hid bm
  have BO := Lib.hid bo
  clear hmk hok bm bo
  go_enter Try.func19, Try.ntmps19
  have HB := Lib.hid (Below.refl w.heap.size w)
  obtain ⟨N1, hN1⟩ : ∃ N, w.heap.size = N := ⟨_, rfl⟩
  have HN1 := Lib.hid hN1
  clear hN1
  go_wp2_with (refine wpList_box (op := ⟨some 2, _, _, _, _, _⟩) rfl 40 (.tmp 0) rfl (mbC m) rfl N1 HN1.out ?_; intro w1 k1 b1 s1; refine Hid.out ?_)
  refine Lib.hid ?_
  have K1 := Lib.hid k1
  clear k1
  have le_HB_N1 : w.heap.size ≤ N1 := by rw [← HN1.out]; exact HB.out.size
  have HBn := Lib.hid (HB.out.trans (b1.mono HB.out.size))
  clear HB
  have HB := HBn
  clear HBn
  clear b1 HN1
  obtain ⟨N2, hN2⟩ : ∃ N, w1.heap.size = N := ⟨_, rfl⟩
  have HN2 := Lib.hid hN2
  clear hN2
  go_wp2_with (refine wpList_box (op := ⟨some 3, _, _, _, _, _⟩) rfl 40 (.tmp 1) rfl (mbC o) rfl N2 HN2.out ?_; intro w2 k1 b1 s1; refine Hid.out ?_)
  refine Lib.hid ?_
  have K2 := Lib.hid k1
  clear k1
  have lt_N1_N2 : N1 < N2 := by rw [← HN2.out]; exact K1.out.lt
  have le_HB_N2 : w.heap.size ≤ N2 := by rw [← HN2.out]; exact HB.out.size
  have K1n := Lib.hid (K1.out.below b1 K1.out.lt)
  clear K1
  have K1 := K1n
  clear K1n
  have HBn := Lib.hid (HB.out.trans (b1.mono HB.out.size))
  clear HB
  have HB := HBn
  clear HBn
  clear b1 HN2
  have c1 : w2.cell? ⟨N1, 12, none⟩ = some (.int .u8 m.pr) := (K1.out.cell 12).trans rfl
  have c2 : w2.cell? ⟨N2, 12, none⟩ = some (.int .u8 o.pr) := (K2.out.cell 12).trans rfl
  by_cases hp : m.pr = o.pr
  ·
    have hq : (m.pr != o.pr) = false := by simp [hp]
    have HP := Lib.hid hp
    clear hp
    go_wp2_with fail
    clear c1 c2 hq
    refine wp_region_held_drew (S := fun w' => Blk 40 w' N1 (mbC m) ∧ Blk 40 w' N2 (mbC o) ∧ Below w.heap.size w w') (by kernel_rfl) ⟨K1.out, K2.out, HB.out.drew⟩ (fun hS => ?_)
    generalize hW3 : w2.drew = W3 at hS ⊢
    clear hW3
    clear K1
    clear K2
    clear HB
    have K1 := Lib.hid hS.1
    have K2 := Lib.hid hS.2.1
    have HB := Lib.hid hS.2.2
    refine takeY (i := 0) (some 15) (v := .pointer (some ⟨N1, 6, none⟩)) rfl rfl (by kernel_rfl) (by kernel_rfl) (by kernel_rfl) (fun _ _ _ h => h) (by rfl) (fun w' hS => by go_simp) hS ?_
    simp only [Act.put, List.setIfInBounds_toArray, List.set_cons_zero, List.set_cons_succ]
    refine takeY (i := 1) (some 16) (v := .slice (some ⟨N1, 6, none⟩) 6 6) rfl rfl (by kernel_rfl) (by kernel_rfl) (by kernel_rfl) (fun _ _ _ h => h) (by rfl) (fun w' hS => by go_simp) hS ?_
    simp only [Act.put, List.setIfInBounds_toArray, List.set_cons_zero, List.set_cons_succ]
    refine takeY (i := 2) (some 17) (v := .pointer (some ⟨N2, 6, none⟩)) rfl rfl (by kernel_rfl) (by kernel_rfl) (by kernel_rfl) (fun _ _ _ h => h) (by rfl) (fun w' hS => by go_simp) hS ?_
    simp only [Act.put, List.setIfInBounds_toArray, List.set_cons_zero, List.set_cons_succ]
    refine takeY (i := 3) (some 18) (v := .slice (some ⟨N2, 6, none⟩) 6 6) rfl rfl (by kernel_rfl) (by kernel_rfl) (by kernel_rfl) (fun _ _ _ h => h) (by rfl) (fun w' hS => by go_simp) hS ?_
    simp only [Act.put, List.setIfInBounds_toArray, List.set_cons_zero, List.set_cons_succ]
    refine takeC (i := 4) (some 19) 27 #[.slice (some ⟨N1, 6, none⟩) 6 6, .slice (some ⟨N2, 6, none⟩) 6 6] (.int .i64 (cmp3 (numZ m.k 0 6) (numZ o.k 0 6))) (R := fun w' => W3 = w') rfl rfl (by kernel_rfl) (by rfl) (by go_simp) ((cmp6_any _ _ _ _ _ _ m.k o.k W3 K1.out.mbk K2.out.mbk HM.out HO.out).mono (fun e w' h => ⟨h.1, h.2.symm⟩)) (fun w' hb => hb ▸ hS) (fun W4 hb1 hS2 => ?_)
    subst hb1
    clear hS2
    simp only [Act.put, List.setIfInBounds_toArray, List.set_cons_zero, List.set_cons_succ]
    refine takeY (i := 5) (some 20) (v := .bool (decide (0 < cmp3 (numZ m.k 0 6) (numZ o.k 0 6)))) rfl rfl (by kernel_rfl) (by kernel_rfl) (by kernel_rfl) (fun _ _ _ h => h) (by rfl) (fun w' hS => by go_simp) hS ?_
    simp only [Act.put, List.setIfInBounds_toArray, List.set_cons_zero, List.set_cons_succ]
    refine takeY (i := 6) (some 4) (v := .bool (decide (0 < cmp3 (numZ m.k 0 6) (numZ o.k 0 6)))) rfl rfl (by kernel_rfl) (by kernel_rfl) (by kernel_rfl) (fun _ _ _ h => h) (by rfl) (fun w' hS => by go_simp) hS ?_
    simp only [Act.put, List.setIfInBounds_toArray, List.set_cons_zero, List.set_cons_succ]
    clear hS
    refine wpAnyH_done (by kernel_rfl) ?_ _
    go_wp2_with fail
    go_ret
    refine ⟨?_, HB.out⟩
    rw [cmp3_lt]
    have := HP.out
    exact congrArg (fun q => Ending.returned (.bool q)) (decide_eq_decide.2 (by unfold keyM; omega))
  ·
    have hq : (m.pr != o.pr) = true := by simp [hp]
    go_wp2_with fail
    go_ret
    refine ⟨?_, HB.out⟩
    have h1 := BM.out
    have h2 := BO.out
    exact congrArg (fun q => Ending.returned (.bool q)) (decide_eq_decide.2 (by unfold keyM; omega))
theorem mac_idx (z : Nat → Int) (i : Nat) (hi : i < 6) (w : World) : (Instr.index 36 (.agg (syC z)) (.int .i64 (i : Int))).run Try.prog w = .ok (.int .u8 (z i)) w := by
  rcases (by omega : i = 0 ∨ i = 1 ∨ i = 2 ∨ i = 3 ∨ i = 4 ∨ i = 5) with rfl | rfl | rfl | rfl | rfl | rfl <;> kernel_rfl
theorem num_part {z : Nat → Int} (h : byte6 z) (i : Nat) (hi : i ≤ 6) : 0 ≤ numZ z 0 i ∧ numZ z 0 i < 281474976710656 := by
  have h1 := numZ_lt z 0 i h
  have e : (256 : Int) ^ i ≤ 256 ^ 6 := by
    rcases (by omega : i = 0 ∨ i = 1 ∨ i = 2 ∨ i = 3 ∨ i = 4 ∨ i = 5 ∨ i = 6) with rfl | rfl | rfl | rfl | rfl | rfl | rfl <;> decide
  have e2 : (256 : Int) ^ 6 = 281474976710656 := by decide
  omega
theorem num_next {z : Nat → Int} (h : byte6 z) (i : Nat) (hi : i < 6) : IntKind.u64.wrap (IntKind.u64.wrap (numZ z 0 i * 256) + z i) = numZ z 0 (i + 1) := by
  have h1 := num_part h i (by omega)
  have h2 := h i
  simp only [IntKind.wrap_u64, numZ, Nat.zero_add]
  omega
set_option maxHeartbeats 4000000 in
set_option maxRecDepth 100000 in
theorem number_any (z : Nat → Int) (w : World) (hz : byte6 z) :
    Calls Try.prog 21 #[.agg (syC z)] w fun e w' => e = .returned (.int .u64 (numZ z 0 6)) ∧ Below w.heap.size w w' := by
  have HZ := Lib.hid hz
  have hXI := Lib.hid (fun i hi w => mac_idx z i hi w)
  clear hz
  go_enter Try.func21, Try.ntmps21
  have HB := Lib.hid (Below.refl w.heap.size w)
  obtain ⟨N1, hN1⟩ : ∃ N, w.heap.size = N := ⟨_, rfl⟩
  have HN1 := Lib.hid hN1
  clear hN1
  go_wp2_with (refine wpList_box (op := ⟨some 1, _, _, _, _, _⟩) rfl 36 (.tmp 0) rfl (syC z) rfl N1 HN1.out ?_; intro w1 k1 b1 s1; refine Hid.out ?_)
  refine Lib.hid ?_
  have K1 := Lib.hid k1
  clear k1
  have le_HB_N1 : w.heap.size ≤ N1 := by rw [← HN1.out]; exact HB.out.size
  have HBn := Lib.hid (HB.out.trans (b1.mono HB.out.size))
  clear HB
  have HB := HBn
  clear HBn
  clear b1 HN1
  go_wp2_with (refine wpList_ld (op := ⟨some 6, _, _, _, _, _⟩) (by rfl) 36 (.tmp 1) rfl N1 0 rfl (syC z) _ K1.out.all Try.underlying36 rfl info_mac ?_; refine Hid.out ?_)
  refine Lib.hid ?_
  go_wp2_with fail
  go_loopw [7, 3] (fun t s wr => ∃ i : Nat, i ≤ 6 ∧ t = .int .i64 i ∧ s = .int .u64 (numZ z 0 i) ∧ Hid (Below w.heap.size w wr)) (fun t _ _ => 6 - (intOf t).toNat)
  case atStart => exact ⟨0, by omega, rfl, rfl, HB⟩
  case round =>
    obtain ⟨i, hi, rfl, rfl, HW⟩ := hrel
    by_cases hi6 : i < 6
    · have hx := hXI.out i hi6
      have hi6' : (i : Int) < 6 := by omega
      have hv := num_next HZ.out i hi6
      have hzi := HZ.out i
      have HV := Lib.hid hv
      clear hv
      go_wp2_with fail
      go_roundw
      case rel => exact ⟨i + 1, by omega, by go_num, by first | (rw [← HV.out]) | (rw [← HV.out]; simp [IntKind.wrap_u64]), HW⟩
      case measure => simp only [intOf]; omega
    · obtain rfl : i = 6 := by omega
      go_wp2_with fail
      go_ret
      exact ⟨rfl, HW.out⟩
def Beyo (L : Nat → Mb) (n : Nat) : Prop := ∃ j, j < n ∧ 127 < (L j).pr
def NoBe (L : Nat → Mb) (n : Nat) : Prop := ∀ j, j < n → ¬ 127 < (L j).pr
theorem nobe_next {L : Nat → Mb} {k : Nat} (h : NoBe L k) (hq : ¬ 127 < (L k).pr) : NoBe L (k + 1) := by
  intro j hj
  by_cases e : j = k
  · subst e; exact hq
  · exact h j (by omega)
def IdxP (L : Nat → Mb) (n : Nat) (w : World) (e : Ending) (w' : World) : Prop := ∃ r : Int, e = .returned (.int .i64 r) ∧ ((0 ≤ r ∧ Beyo L n) ∨ (r = -1 ∧ NoBe L n)) ∧ Below w.heap.size w w'
def ConP (L : Nat → Mb) (n : Nat) (w : World) (e : Ending) (w' : World) : Prop := ∃ q : Bool, e = .returned (.bool q) ∧ ((q = true ∧ Beyo L n) ∨ (q = false ∧ NoBe L n)) ∧ Below w.heap.size w w'
def ChkP (L : Nat → Mb) (n : Nat) (w : World) (e : Ending) (w' : World) : Prop := ∃ r : Int, e = .returned (.int .i64 r) ∧ chkM L n r ∧ Below w.heap.size w w'
set_option maxHeartbeats 4000000 in
set_option maxRecDepth 100000 in
theorem index_any (A : Option Addr) (n c : Nat) (L : Nat → Mb) (w : World) (hR : RdR w A n 14 (mbA L)) (hn : n ≤ 140737488351232) :
    Calls Try.prog 31 #[.slice A n c, .func (.func 26) #[] #[]] w (IdxP L n w) := by
  rcases Nat.eq_zero_or_pos n with rfl | hpos
  · clear hR
    go_enter Try.func31, Try.ntmps31
    go_wp2
    refine wp_loop_rounds 1 ?_
    rw [rounds_succ]
    go_wp2
    go_ret
    exact ⟨-1, rfl, .inr ⟨rfl, fun j hj => by omega⟩, Below.refl _ _⟩
  · obtain ⟨b, off, rfl, hr⟩ := hR.row hpos
    have HR := Lib.hid hr
    clear hR hr
    go_enter Try.func31, Try.ntmps31
    have HB := Lib.hid (Below.refl w.heap.size w)
    go_wp2_with fail
    go_loopw [8] (fun t wr => ∃ k : Nat, k ≤ n ∧ t = .int .i64 k ∧ Hid (NoBe L k) ∧ Hid (Below w.heap.size w wr)) (fun t _ => n - (intOf t).toNat)
    case atStart => exact ⟨0, by omega, rfl, Lib.hid (fun j hj => absurd hj (Nat.not_lt_zero _)), HB⟩
    case round =>
      obtain ⟨k, hk, rfl, HA, HW⟩ := hrel
      by_cases hlt : k < n
      · have hki : (k : Int) < (n : Int) := by omega
        have h1 : Hid (wr.rangeAt b (off + k * 14) (mbC (L k)).toList) := Lib.hid (rangeAt_below (HR.out.2 k hlt) HW.out HR.out.1)
        go_wp2_with (refine wpList_ld (op := ⟨some 15, _, _, _, _, _⟩) (by rfl) 40 (.tmp 14) rfl b (off + k * 14) rfl (mbC (L k)) _ h1.out Try.underlying40 rfl info_mbP ?_; refine Hid.out ?_)
        refine Lib.hid ?_
        clear h1
        go_wp2_with fail
        refine (beyond_any (L k) wr).mono ?_
        rintro e w2 ⟨rfl, b1⟩
        have HW2 := Lib.hid (HW.out.trans (b1.mono HW.out.size))
        clear b1
        cases hq : decide (127 < (L k).pr) with
        | true =>
          go_wp2_with fail
          go_ret
          exact ⟨k, rfl, .inl ⟨by omega, k, hlt, of_decide_eq_true hq⟩, HW2.out⟩
        | false =>
          go_wp2_with fail
          go_roundw
          case rel => exact ⟨k + 1, by omega, by go_num, Lib.hid (nobe_next HA.out (of_decide_eq_false hq)), HW2⟩
          case measure => simp only [intOf]; omega
      · obtain rfl : k = n := by omega
        go_wp2_with fail
        go_ret
        exact ⟨-1, rfl, .inr ⟨rfl, HA.out⟩, HW.out⟩
set_option maxHeartbeats 4000000 in
set_option maxRecDepth 100000 in
theorem contains_any (A : Option Addr) (n c : Nat) (L : Nat → Mb) (w : World) (hR : RdR w A n 14 (mbA L)) (hn : n ≤ 140737488351232) :
    Calls Try.prog 25 #[.slice A n c, .func (.func 26) #[] #[]] w (ConP L n w) := by
  go_enter Try.func25, Try.ntmps25
  go_wp2_with fail
  refine (index_any A n c L w hR hn).mono ?_
  rintro e w2 ⟨r, rfl, hr, hb⟩
  have HR := Lib.hid hr
  have HB := Lib.hid hb
  clear hR hr hb
  go_wp2_with fail
  go_ret
  refine ⟨decide (0 ≤ r), by simp, ?_, HB.out⟩
  rcases HR.out with ⟨h0, h1⟩ | ⟨rfl, h1⟩
  · exact .inl ⟨decide_eq_true h0, h1⟩
  · exact .inr ⟨rfl, h1⟩
set_option maxHeartbeats 4000000 in
set_option maxRecDepth 100000 in
theorem check_any (A : Option Addr) (n c : Nat) (L : Nat → Mb) (w : World) (hR : RdR w A n 14 (mbA L)) (hn : n ≤ 140737488351232) :
    Calls Try.prog 18 #[.slice A n c] w (ChkP L n w) := by
  go_enter Try.func18, Try.ntmps18
  go_wp2_with fail
  refine (contains_any A n c L w hR hn).mono ?_
  rintro e w2 ⟨q, rfl, hq, hb⟩
  have HB := Lib.hid hb
  clear hR hb
  rcases hq with ⟨rfl, h1⟩ | ⟨rfl, h1⟩
  · have H1 := Lib.hid h1
    clear h1
    go_wp2_with fail
    go_ret
    exact ⟨1, rfl, .inl ⟨H1.out, rfl⟩, HB.out⟩
  · have H1 := Lib.hid h1
    clear h1
    by_cases hl : 64 < n
    · have hl' : (64 : Int) < (n : Int) := by omega
      go_wp2_with fail
      go_ret
      exact ⟨2, rfl, .inr ⟨H1.out, .inl ⟨hl, rfl⟩⟩, HB.out⟩
    · have hl' : ¬ (64 : Int) < (n : Int) := by omega
      go_wp2_with fail
      go_ret
      exact ⟨0, rfl, .inr ⟨H1.out, .inr ⟨by omega, rfl⟩⟩, HB.out⟩
set_option maxHeartbeats 4000000 in
set_option maxRecDepth 100000 in
theorem refCheck_any (A : Option Addr) (n c : Nat) (L : Nat → Mb) (w : World) (hR : RdR w A n 14 (mbA L)) (hn : n ≤ 140737488351232) :
    Calls Try.prog 20 #[.slice A n c] w (ChkP L n w) := by
  rcases Nat.eq_zero_or_pos n with rfl | hpos
  · clear hR
    go_enter Try.func20, Try.ntmps20
    go_wp2
    refine wp_loop_rounds 1 ?_
    rw [rounds_succ]
    go_wp2
    go_ret
    exact ⟨0, rfl, .inr ⟨fun j hj => by omega, .inr ⟨by omega, rfl⟩⟩, Below.refl _ _⟩
  · obtain ⟨b, off, rfl, hr⟩ := hR.row hpos
    have HR := Lib.hid hr
    clear hR hr
    go_enter Try.func20, Try.ntmps20
    go_wp2_with fail
    go_loopw [6] (fun t wr => ∃ k : Nat, k ≤ n ∧ t = .int .i64 k ∧ Hid (NoBe L k) ∧ Hid (Below w.heap.size w wr)) (fun t _ => n - (intOf t).toNat)
    case atStart => exact ⟨0, by omega, rfl, Lib.hid (fun j hj => by omega), Lib.hid (Below.refl _ _)⟩
    case round =>
      obtain ⟨k, hk, rfl, HA, HW⟩ := hrel
      by_cases hlt : k < n
      · have hki : (k : Int) < (n : Int) := by omega
        have c1 : wr.cell? ⟨b, off + k * 14 + 12, none⟩ = some (.int .u8 (L k).pr) := rangeAt_below (HR.out.2 k hlt) HW.out HR.out.1 12 _ rfl
        by_cases hq : 128 ≤ (L k).pr
        · go_wp2_with fail
          go_ret
          exact ⟨1, rfl, .inl ⟨⟨k, hlt, by omega⟩, rfl⟩, HW.out⟩
        · have hq' : ¬ 128 ≤ (L k).pr := hq
          go_wp2_with fail
          go_roundw
          case rel => exact ⟨k + 1, by omega, by go_num, Lib.hid (nobe_next HA.out (by omega)), HW⟩
          case measure => simp only [intOf]; omega
      · obtain rfl : k = n := by omega
        by_cases hl : 64 < k
        · have hl' : (64 : Int) < (k : Int) := by omega
          go_wp2_with fail
          go_ret
          exact ⟨2, rfl, .inr ⟨HA.out, .inl ⟨hl, rfl⟩⟩, HW.out⟩
        · have hl' : ¬ (64 : Int) < (k : Int) := by omega
          go_wp2_with fail
          go_ret
          exact ⟨0, rfl, .inr ⟨HA.out, .inr ⟨by omega, rfl⟩⟩, HW.out⟩
end Go.Proofs.Ytahflakanbhapaa
