/- The document's Heard. Each theorem states its conditions. -/
import Derived.Test.YtahflakanbhapaaIList
namespace Go.Proofs.Ytahflakanbhapaa
open Go.RowKit
set_option linter.unusedVariables false

/-- one of the first m MACs is this one -/
def Hd (a z : Nat → Int) (m : Nat) : Prop := ∃ i, i < m ∧ ∀ x, x < 6 → z (6 * i + x) = a x
/-- the first x bytes of the one at p are as they should be -/
def Sm (a z : Nat → Int) (p x : Nat) : Prop := ∀ y, y < x → z (p + y) = a y
def HB (P : Prop) (q : Bool) : Prop := q = true ↔ P
theorem sm_start (a z : Nat → Int) (p : Nat) : HB (Sm a z p 0) true := ⟨fun _ y hy => by omega, fun _ => rfl⟩
theorem sm_keep {a z : Nat → Int} {p x : Nat} {r : Bool} (h : HB (Sm a z p x) true) (hr : (z (p + x) == a x) = r) : HB (Sm a z p (x + 1)) r := by
  subst hr
  refine ⟨fun g y hy => ?_, fun g => ?_⟩
  · by_cases e : y = x
    · subst e; exact eq_of_beq g
    · exact h.1 rfl y (by omega)
  · rw [beq_iff_eq]; exact g x (by omega)
theorem sm_fail {a z : Nat → Int} {p x : Nat} (h : HB (Sm a z p x) false) : HB (Sm a z p (x + 1)) false := by
  refine ⟨fun e => (by cases e), fun g => ?_⟩
  exact h.2 (fun y hy => g y (by omega))
theorem hd_next {a z : Nat → Int} {m : Nat} {q r : Bool} (h : HB (Hd a z m) q) (hr : HB (Sm a z (6 * m) 6) r) : HB (Hd a z (m + 1)) (q || r) := by
  refine ⟨fun g => ?_, fun ⟨i, hi, g⟩ => ?_⟩
  · rcases Bool.or_eq_true _ _ ▸ g with g | g
    · obtain ⟨i, hi, g2⟩ := h.1 g
      exact ⟨i, by omega, g2⟩
    · exact ⟨m, by omega, fun x hx => hr.1 g x hx⟩
  · rw [Bool.or_eq_true]
    by_cases e : i = m
    · subst e; exact .inr (hr.2 g)
    · exact .inl (h.2 ⟨i, by omega, g⟩)
theorem hd_zero (a z : Nat → Int) : HB (Hd a z 0) false := ⟨fun e => (by cases e), fun ⟨i, hi, _⟩ => by omega⟩
/-- what Heard answers -/
def HeaR (a z : Nat → Int) (n : Nat) (q : Bool) (r : Int) : Prop := (255 < n ∧ q = false ∧ r = 2) ∨ (n ≤ 255 ∧ n % 6 ≠ 0 ∧ q = false ∧ r = 3) ∨ (n ≤ 255 ∧ n % 6 = 0 ∧ r = 0 ∧ HB (Hd a z (n / 6)) q)
theorem heaR_unique {a z : Nat → Int} {n : Nat} {q q' : Bool} {r r' : Int} (h : HeaR a z n q r) (g : HeaR a z n q' r') : q = q' ∧ r = r' := by
  rcases h with ⟨h1, h2, h3⟩ | ⟨h1, h2, h3, h4⟩ | ⟨h1, h2, h3, h4⟩ <;> rcases g with ⟨g1, g2, g3⟩ | ⟨g1, g2, g3, g4⟩ | ⟨g1, g2, g3, g4⟩ <;> first | omega | skip
  · exact ⟨h2.trans g2.symm, h3.trans g3.symm⟩
  · exact ⟨h3.trans g3.symm, h4.trans g4.symm⟩
  · exact ⟨Bool.eq_iff_iff.2 (h4.trans g4.symm), h3.trans g3.symm⟩
def HeaP (a z : Nat → Int) (n : Nat) (w : World) (e : Ending) (w' : World) : Prop := ∃ q r, e = .returned (.tuple #[.bool q, .int .i64 r]) ∧ HeaR a z n q r ∧ Below w.heap.size w w'
theorem syC_at (z : Nat → Int) (j : Nat) (h : j < 6) : (syC z)[j]? = some (.int .u8 (z j)) := by
  rcases (by omega : j = 0 ∨ j = 1 ∨ j = 2 ∨ j = 3 ∨ j = 4 ∨ j = 5) with rfl | rfl | rfl | rfl | rfl | rfl <;> rfl
set_option maxHeartbeats 8000000 in
set_option maxRecDepth 100000 in
theorem docHeard_any (a : Nat → Int) (A : Option Addr) (n c : Nat) (z : Nat → Int) (w : World) (hr : Rd w A n z) (hc : n ≤ c) (hcm : c ≤ 9223372036854775807) :
    Calls Try.prog 16 #[.agg (syC a), .slice A n c] w (HeaP a z n w) := by
  have HRd := Lib.hid hr
  clear hr
  go_enter Try.func16, Try.ntmps16
  have HW := Lib.hid (Below.refl w.heap.size w)
  obtain ⟨N1, hN1⟩ : ∃ N, w.heap.size = N := ⟨_, rfl⟩
  have HN1 := Lib.hid hN1
  clear hN1
  go_wp2_with (refine wpList_box (op := ⟨some 2, _, _, _, _, _⟩) rfl 36 (.tmp 0) rfl (syC a) rfl N1 HN1.out ?_; intro w1 k1 b1 s1; refine Hid.out ?_)
  refine Lib.hid ?_
  have K2 := Lib.hid k1
  clear k1
  have le_HW_N1 : w.heap.size ≤ N1 := by rw [← HN1.out]; exact HW.out.size
  have HWn := Lib.hid (HW.out.trans (b1.mono HW.out.size))
  clear HW
  have HW := HWn
  clear HWn
  clear b1 HN1
  by_cases h255 : 255 < n
  · have i1 : (255 : Int) < (n : Int) := by omega
    go_wp2_with fail
    go_ret2
    exact ⟨false, 2, rfl, .inl ⟨h255, rfl, rfl⟩, HW.out⟩
  have i1 : ¬ (255 : Int) < (n : Int) := by omega
  by_cases h6 : n % 6 = 0
  rotate_left
  · have i3 : ¬ (n : Int) % 6 = 0 := by omega
    go_wp2_with fail
    go_ret2
    exact ⟨false, 3, rfl, .inr (.inl ⟨by omega, h6, rfl, rfl⟩), HW.out⟩
  have i3 : (n : Int) % 6 = 0 := by omega
  obtain ⟨M, hM⟩ : ∃ M, 6 * M = n := ⟨n / 6, by omega⟩
  have HM := Lib.hid hM
  have HMd : Hid (n / 6 = M) := Lib.hid (by omega)
  clear hM
  go_wp2_with fail
  go_loopw [6, 7] (fun s t wr => ∃ (q : Bool) (m p : Nat), m ≤ M ∧ s = .bool q ∧ t = .int .i64 (p : Int) ∧ Hid (6 * m = p) ∧ Hid (HB (Hd a z m) q) ∧ Hid (Blk 36 wr N1 (syC a)) ∧ Hid (Below w.heap.size w wr)) (fun _ t _ => n - (intOf t).toNat)
  case atStart => exact ⟨false, 0, 0, by omega, rfl, rfl, Lib.hid (by omega), Lib.hid (hd_zero a z), K2, HW⟩
  case round =>
    clear K2 HW
    obtain ⟨q, m, p, hm, rfl, rfl, HP, HQ, K2, HW⟩ := hrel
    by_cases hmt : m < M
    rotate_left
    · have hpn : p = n := by have := HP.out; have := HM.out; omega
      have i4 : ¬ (p : Int) < (n : Int) := by omega
      have HQn : Hid (HB (Hd a z (n / 6)) q) := Lib.hid (by rw [HMd.out]; have e9 : m = M := (by omega); subst e9; exact HQ.out)
      clear hpn
      go_wp2_with fail
      go_ret2
      exact ⟨q, 0, rfl, .inr (.inr ⟨by omega, h6, rfl, HQn.out⟩), HW.out⟩
    have i4 : (p : Int) < (n : Int) := by have := HP.out; have := HM.out; omega
    have hpn6 : p + 6 ≤ n := by have := HP.out; have := HM.out; omega
    obtain ⟨b, off, rfl, hrow⟩ := HRd.out.row (by omega)
    have HRow := Lib.hid hrow
    clear hrow
    go_wp2_with fail
    go_loopw [8, 23] (fun s t wq => ∃ (r : Bool) (x : Nat), x ≤ 6 ∧ s = .bool r ∧ t = .int .i64 x ∧ Hid (HB (Sm a z p x) r) ∧ Hid (Blk 36 wq N1 (syC a)) ∧ Hid (Below w.heap.size w wq)) (fun _ t _ => 6 - (intOf t).toNat)
    case atStart => exact ⟨true, 0, by omega, rfl, rfl, Lib.hid (sm_start a z p), K2, HW⟩
    case round =>
      clear K2 HW
      obtain ⟨r, x, hx, rfl, rfl, HS, K2, HW⟩ := hrel
      by_cases hx6 : x < 6
      rotate_left
      · obtain rfl : x = 6 := by omega
        have HN := Lib.hid (hd_next HQ.out (by rw [HP.out]; exact HS.out))
        cases q <;> cases r
        all_goals
          go_wp2_with fail
          go_roundw
          case rel => exact ⟨_, m + 1, p + 6, by omega, rfl, by go_num, Lib.hid (by have := HP.out; omega), HN, K2, HW⟩
          case measure => simp only [intOf]; omega
      have hxi : (x : Int) < 6 := by omega
      cases r
      · skip
        go_wp2_with fail
        refine wp_region_held_drew (S := fun w' => Blk 36 w' N1 (syC a) ∧ Below w.heap.size w w') (by kernel_rfl) ⟨K2.out, HW.out.drew⟩ (fun hS => ?_)
        generalize hW41 : wr.drew = W41 at hS ⊢
        clear hW41
        clear K2
        clear HW
        have K2 := Lib.hid hS.1
        have HW := Lib.hid hS.2
        refine takeY (i := 0) (some 26) (v := .bool false) rfl rfl (by kernel_rfl) (by kernel_rfl) (by kernel_rfl) (fun _ _ _ h => h) (by rfl) (fun w' hS => by go_simp) hS ?_
        simp only [Act.put, List.setIfInBounds_toArray, List.set_cons_zero, List.set_cons_succ]
        refine takeY (i := 1) (some 27) (v := .bool false) rfl rfl (by kernel_rfl) (by kernel_rfl) (by kernel_rfl) (fun _ _ _ h => h) (by rfl) (fun w' hS => by go_simp) hS ?_
        simp only [Act.put, List.setIfInBounds_toArray, List.set_cons_zero, List.set_cons_succ]
        refine takeN (i := 2) (some 28) rfl rfl (by kernel_rfl) (by kernel_rfl) (by kernel_rfl) (fun _ _ _ h => h) (by rfl) hS ?_
        simp only [Act.put, List.setIfInBounds_toArray, List.set_cons_zero, List.set_cons_succ]
        refine takeN (i := 3) (some 29) rfl rfl (by kernel_rfl) (by kernel_rfl) (by kernel_rfl) (fun _ _ _ h => h) (by rfl) hS ?_
        simp only [Act.put, List.setIfInBounds_toArray, List.set_cons_zero, List.set_cons_succ]
        refine takeN (i := 4) (some 30) rfl rfl (by kernel_rfl) (by kernel_rfl) (by kernel_rfl) (fun _ _ _ h => h) (by rfl) hS ?_
        simp only [Act.put, List.setIfInBounds_toArray, List.set_cons_zero, List.set_cons_succ]
        refine takeN (i := 5) (some 31) rfl rfl (by kernel_rfl) (by kernel_rfl) (by kernel_rfl) (fun _ _ _ h => h) (by rfl) hS ?_
        simp only [Act.put, List.setIfInBounds_toArray, List.set_cons_zero, List.set_cons_succ]
        refine takeN (i := 6) (some 32) rfl rfl (by kernel_rfl) (by kernel_rfl) (by kernel_rfl) (fun _ _ _ h => h) (by rfl) hS ?_
        simp only [Act.put, List.setIfInBounds_toArray, List.set_cons_zero, List.set_cons_succ]
        refine takeN (i := 7) (some 33) rfl rfl (by kernel_rfl) (by kernel_rfl) (by kernel_rfl) (fun _ _ _ h => h) (by rfl) hS ?_
        simp only [Act.put, List.setIfInBounds_toArray, List.set_cons_zero, List.set_cons_succ]
        refine takeN (i := 8) (some 34) rfl rfl (by kernel_rfl) (by kernel_rfl) (by kernel_rfl) (fun _ _ _ h => h) (by rfl) hS ?_
        simp only [Act.put, List.setIfInBounds_toArray, List.set_cons_zero, List.set_cons_succ]
        refine takeN (i := 9) (some 35) rfl rfl (by kernel_rfl) (by kernel_rfl) (by kernel_rfl) (fun _ _ _ h => h) (by rfl) hS ?_
        simp only [Act.put, List.setIfInBounds_toArray, List.set_cons_zero, List.set_cons_succ]
        refine takeN (i := 10) (some 36) rfl rfl (by kernel_rfl) (by kernel_rfl) (by kernel_rfl) (fun _ _ _ h => h) (by rfl) hS ?_
        simp only [Act.put, List.setIfInBounds_toArray, List.set_cons_zero, List.set_cons_succ]
        refine takeN (i := 11) (some 37) rfl rfl (by kernel_rfl) (by kernel_rfl) (by kernel_rfl) (fun _ _ _ h => h) (by rfl) hS ?_
        simp only [Act.put, List.setIfInBounds_toArray, List.set_cons_zero, List.set_cons_succ]
        refine takeY (i := 12) (some 38) (v := .bool false) rfl rfl (by kernel_rfl) (by kernel_rfl) (by kernel_rfl) (fun _ _ _ h => h) (by rfl) (fun w' hS => by go_simp) hS ?_
        simp only [Act.put, List.setIfInBounds_toArray, List.set_cons_zero, List.set_cons_succ]
        refine takeY (i := 13) (some 8) (v := .bool false) rfl rfl (by kernel_rfl) (by kernel_rfl) (by kernel_rfl) (fun _ _ _ h => h) (by rfl) (fun w' hS => by go_simp) hS ?_
        simp only [Act.put, List.setIfInBounds_toArray, List.set_cons_zero, List.set_cons_succ]
        clear hS
        refine wpAnyH_done (by kernel_rfl) ?_ _
        go_wp2_with fail
        go_roundw
        case rel => exact ⟨false, x + 1, by omega, rfl, by go_num, Lib.hid (sm_fail HS.out), K2, HW⟩
        case measure => simp only [intOf]; omega
      · skip
        obtain ⟨r, hr⟩ : ∃ r, (z (p + x) == a x) = r := ⟨_, rfl⟩
        have HR := Lib.hid hr
        clear hr
        obtain ⟨P, hP⟩ : ∃ P, p + x = P := ⟨_, rfl⟩
        have HPP := Lib.hid hP
        have hPn : (P : Int) < (n : Int) := by omega
        have hPl : P < n := by omega
        rw [hP] at HR
        clear hP
        go_wp2_with fail
        refine wp_region_held_drew (S := fun w' => Blk 36 w' N1 (syC a) ∧ Below w.heap.size w w') (by kernel_rfl) ⟨K2.out, HW.out.drew⟩ (fun hS => ?_)
        generalize hW41 : wr.drew = W41 at hS ⊢
        clear hW41
        clear K2
        clear HW
        have K2 := Lib.hid hS.1
        have HW := Lib.hid hS.2
        refine takeY (i := 0) (some 26) (v := .bool true) rfl rfl (by kernel_rfl) (by kernel_rfl) (by kernel_rfl) (fun _ _ _ h => h) (by rfl) (fun w' hS => by go_simp) hS ?_
        simp only [Act.put, List.setIfInBounds_toArray, List.set_cons_zero, List.set_cons_succ]
        refine takeY (i := 1) (some 27) (v := .bool true) rfl rfl (by kernel_rfl) (by kernel_rfl) (by kernel_rfl) (fun _ _ _ h => h) (by rfl) (fun w' hS => by go_simp) hS ?_
        simp only [Act.put, List.setIfInBounds_toArray, List.set_cons_zero, List.set_cons_succ]
        refine takeY (i := 2) (some 28) (v := .slice (some ⟨b, off, none⟩) n c) rfl rfl (by kernel_rfl) (by kernel_rfl) (by kernel_rfl) (fun _ _ _ h => h) (by rfl) (fun w' hS => by go_simp) hS ?_
        simp only [Act.put, List.setIfInBounds_toArray, List.set_cons_zero, List.set_cons_succ]
        refine takeY (i := 3) (some 29) (v := .int .i64 (p : Int)) rfl rfl (by kernel_rfl) (by kernel_rfl) (by kernel_rfl) (fun _ _ _ h => h) (by rfl) (fun w' hS => by go_simp) hS ?_
        simp only [Act.put, List.setIfInBounds_toArray, List.set_cons_zero, List.set_cons_succ]
        refine takeY (i := 4) (some 30) (v := .int .i64 (x : Int)) rfl rfl (by kernel_rfl) (by kernel_rfl) (by kernel_rfl) (fun _ _ _ h => h) (by rfl) (fun w' hS => by go_simp) hS ?_
        simp only [Act.put, List.setIfInBounds_toArray, List.set_cons_zero, List.set_cons_succ]
        refine takeY (i := 5) (some 31) (v := .int .i64 (P : Int)) rfl rfl (by kernel_rfl) (by kernel_rfl) (by kernel_rfl) (fun _ _ _ h => h) (by rfl) (fun w' hS => by (clear hS; have e9 := HPP.out; go_simp; simp [IntKind.wrap, IntKind.bits, IntKind.signed]; omega)) hS ?_
        simp only [Act.put, List.setIfInBounds_toArray, List.set_cons_zero, List.set_cons_succ]
        refine takeY (i := 6) (some 32) (v := .pointer (some ⟨b, off + P, none⟩)) rfl rfl (by kernel_rfl) (by kernel_rfl) (by kernel_rfl) (fun _ _ _ h => h) (by rfl) (fun w' hS => by (clear hS; go_simp)) hS ?_
        simp only [Act.put, List.setIfInBounds_toArray, List.set_cons_zero, List.set_cons_succ]
        have cz : Hid (∀ w', Below w.heap.size w w' → w'.cell? ⟨b, off + P, none⟩ = some (.int .u8 (z P))) := Lib.hid (fun w' hb => (hb.cell (p := ⟨b, off + P, none⟩) HRow.out.1).trans (HRow.out.2.1 P hPl))
        refine takeY (i := 7) (some 33) (v := .int .u8 (z P)) rfl rfl (by kernel_rfl) (by kernel_rfl) (by kernel_rfl) (fun _ _ _ h => h) (by rfl) (fun w' hS => by (have c9 := cz.out w' hS.2; clear hS; go_simp)) hS ?_
        simp only [Act.put, List.setIfInBounds_toArray, List.set_cons_zero, List.set_cons_succ]
        refine takeY (i := 8) (some 34) (v := .int .i64 (x : Int)) rfl rfl (by kernel_rfl) (by kernel_rfl) (by kernel_rfl) (fun _ _ _ h => h) (by rfl) (fun w' hS => by go_simp) hS ?_
        simp only [Act.put, List.setIfInBounds_toArray, List.set_cons_zero, List.set_cons_succ]
        refine takeY (i := 9) (some 35) (v := .pointer (some ⟨N1, x, none⟩)) rfl rfl (by kernel_rfl) (by kernel_rfl) (by kernel_rfl) (fun _ _ _ h => h) (by rfl) (fun w' hS => by (clear hS; go_simp)) hS ?_
        simp only [Act.put, List.setIfInBounds_toArray, List.set_cons_zero, List.set_cons_succ]
        refine takeY (i := 10) (some 36) (v := .int .u8 (a x)) rfl rfl (by kernel_rfl) (by kernel_rfl) (by kernel_rfl) (fun _ _ _ h => h) (by rfl) (fun w' hS => by (have c9 : w'.cell? ⟨N1, x, none⟩ = some (.int .u8 (a x)) := (hS.1.cell x).trans (syC_at a x hx6); clear hS; go_simp)) hS ?_
        simp only [Act.put, List.setIfInBounds_toArray, List.set_cons_zero, List.set_cons_succ]
        refine takeY (i := 11) (some 37) (v := .bool r) rfl rfl (by kernel_rfl) (by kernel_rfl) (by kernel_rfl) (fun _ _ _ h => h) (by rfl) (fun w' hS => by (clear hS; have e9 := HR.out; go_simp; first | done | exact e9 | simp [e9])) hS ?_
        simp only [Act.put, List.setIfInBounds_toArray, List.set_cons_zero, List.set_cons_succ]
        refine takeY (i := 12) (some 38) (v := .bool r) rfl rfl (by kernel_rfl) (by kernel_rfl) (by kernel_rfl) (fun _ _ _ h => h) (by rfl) (fun w' hS => by go_simp) hS ?_
        simp only [Act.put, List.setIfInBounds_toArray, List.set_cons_zero, List.set_cons_succ]
        refine takeY (i := 13) (some 8) (v := .bool r) rfl rfl (by kernel_rfl) (by kernel_rfl) (by kernel_rfl) (fun _ _ _ h => h) (by rfl) (fun w' hS => by go_simp) hS ?_
        simp only [Act.put, List.setIfInBounds_toArray, List.set_cons_zero, List.set_cons_succ]
        clear hS
        refine wpAnyH_done (by kernel_rfl) ?_ _
        go_wp2_with fail
        go_roundw
        case rel => exact ⟨r, x + 1, by omega, rfl, by go_num, Lib.hid (sm_keep HS.out (by rw [HPP.out]; exact HR.out)), K2, HW⟩
        case measure => simp only [intOf]; omega
end Go.Proofs.Ytahflakanbhapaa
