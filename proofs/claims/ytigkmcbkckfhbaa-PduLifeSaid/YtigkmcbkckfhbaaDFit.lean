/- pdu's fits and allFit. Each theorem states its conditions. -/
import Derived.Test.YtigkmcbkckfhbaaDPutF
namespace Go.Proofs.Ytigkmcbkckfhbaa
open Go.RowKit
set_option linter.unusedVariables false

set_option maxRecDepth 100000 in
theorem fits_0 (p : Pd) (b : Bool) (hb : decide (1 ≤ p.ci ∧ p.ci ≤ 3) = b) (g : Nat) (w : World) (h : PdAt w g p) : Calls Try.prog 57 #[.pointer (some ⟨g, 0, none⟩), .int .i64 0] w fun e w' => e = .returned (.bool b) ∧ w = w' := by
  have c1 : w.cell? ⟨g, 1, none⟩ = some (.int .u8 p.ci) := (h.cell 1).trans rfl
  clear h
  obtain ⟨x, hx⟩ : ∃ x, p.ci = x := ⟨_, rfl⟩
  rw [hx] at c1 hb
  clear hx
  by_cases h1 : 1 ≤ x
  · by_cases h3 : x ≤ 3
    · obtain rfl : true = b := by rw [← hb]; exact (decide_eq_true ⟨h1, h3⟩).symm
      clear hb
      go_enter Try.func57, Try.ntmps57
      go_wp2
      go_ret
      exact ⟨rfl, rfl⟩
    · obtain rfl : false = b := by rw [← hb]; exact (decide_eq_false (by omega)).symm
      clear hb
      go_enter Try.func57, Try.ntmps57
      go_wp2
      go_ret
      exact ⟨rfl, rfl⟩
  · obtain rfl : false = b := by rw [← hb]; exact (decide_eq_false (by omega)).symm
    clear hb
    go_enter Try.func57, Try.ntmps57
    go_wp2
    go_ret
    exact ⟨rfl, rfl⟩
theorem isTime_any (n : Int) (b : Bool) (hb : decide (0 ≤ n ∧ n ≤ 65535) = b) (w : World) : Calls Try.prog 50 #[.int .i64 n] w fun e w' => e = .returned (.bool b) ∧ w = w' := by
  subst hb
  by_cases h : 0 ≤ n ∧ n ≤ 65535
  · rw [decide_eq_true h]
    exact (isTime_yes n w h.1 h.2).mono fun e w' h => ⟨h.1, h.2.symm⟩
  · rw [decide_eq_false h]
    exact (isTime_no n w (by omega)).mono fun e w' h => ⟨h.1, h.2.symm⟩
set_option maxRecDepth 100000 in
theorem fits_3 (p : Pd) (b : Bool) (hb : decide (0 ≤ p.ho ∧ p.ho ≤ 65535) = b) (g : Nat) (w : World) (h : PdAt w g p) : Calls Try.prog 57 #[.pointer (some ⟨g, 0, none⟩), .int .i64 3] w fun e w' => e = .returned (.bool b) ∧ w = w' := by
  have c1 : w.cell? ⟨g, 9, none⟩ = some (.int .i64 p.ho) := (h.cell 9).trans rfl
  have HT := Lib.hid (isTime_any p.ho b hb w)
  clear h hb
  go_enter Try.func57, Try.ntmps57
  go_wp2_with fail
  refine HT.out.mono ?_
  rintro e w1 ⟨rfl, rfl⟩
  go_wp2_with fail
  go_ret
  exact ⟨rfl, rfl⟩
set_option maxRecDepth 100000 in
theorem fits_8 (p : Pd) (b : Bool) (hb : decide (0 ≤ p.li ∧ p.li ≤ 65535) = b) (g : Nat) (w : World) (h : PdAt w g p) : Calls Try.prog 57 #[.pointer (some ⟨g, 0, none⟩), .int .i64 8] w fun e w' => e = .returned (.bool b) ∧ w = w' := by
  have c1 : w.cell? ⟨g, 19, none⟩ = some (.int .i64 p.li) := (h.cell 19).trans rfl
  have HT := Lib.hid (isTime_any p.li b hb w)
  clear h hb
  go_enter Try.func57, Try.ntmps57
  go_wp2_with fail
  refine HT.out.mono ?_
  rintro e w1 ⟨rfl, rfl⟩
  go_wp2_with fail
  go_ret
  exact ⟨rfl, rfl⟩
set_option maxRecDepth 100000 in
theorem fits_6 (p : Pd) (b : Bool) (hb : decide (p.pr ≤ 127) = b) (g : Nat) (w : World) (h : PdAt w g p) : Calls Try.prog 57 #[.pointer (some ⟨g, 0, none⟩), .int .i64 6] w fun e w' => e = .returned (.bool b) ∧ w = w' := by
  have c1 : w.cell? ⟨g, 11, none⟩ = some (.int .u8 p.pr) := (h.cell 11).trans rfl
  clear h
  go_enter Try.func57, Try.ntmps57
  go_wp2_with fail
  go_ret
  exact ⟨rfl, rfl⟩
set_option maxRecDepth 100000 in
theorem fits_x (f : Nat) (hf : f ≤ 14) (h0 : f ≠ 0) (h3 : f ≠ 3) (h8 : f ≠ 8) (h6 : f ≠ 6) (x : Value) (w : World) : Calls Try.prog 57 #[x, .int .i64 (f : Int)] w fun e w' => e = .returned (.bool true) ∧ w = w' := by
  rcases (by omega : f = 1 ∨ f = 2 ∨ f = 4 ∨ f = 5 ∨ f = 7 ∨ f = 9 ∨ f = 10 ∨ f = 11 ∨ f = 12 ∨ f = 13 ∨ f = 14) with rfl | rfl | rfl | rfl | rfl | rfl | rfl | rfl | rfl | rfl | rfl <;>
  · clear h0 h3 h8 h6
    go_enter Try.func57, Try.ntmps57
    go_wp2
    go_ret
    exact ⟨rfl, rfl⟩
theorem fits_any (p : Pd) (g f : Nat) (hf : f ≤ 14) (w : World) (h : PdAt w g p) : Calls Try.prog 57 #[.pointer (some ⟨g, 0, none⟩), .int .i64 (f : Int)] w fun e w' => e = .returned (.bool (fitB p f)) ∧ w = w' := by
  by_cases h0 : f = 0
  · subst h0; exact fits_0 p _ rfl g w h
  · by_cases h3 : f = 3
    · subst h3; exact fits_3 p _ rfl g w h
    · by_cases h8 : f = 8
      · subst h8; exact fits_8 p _ rfl g w h
      · by_cases h6 : f = 6
        · subst h6; exact fits_6 p _ rfl g w h
        · have e : fitB p f = true := by
            unfold fitB
            split <;> first | rfl | (exact absurd rfl ‹_›) | omega
          rw [e]
          exact fits_x f hf h0 h3 h8 h6 _ w
/-- the first field that doesn't fit, or the end -/
theorem fit_ends (p : Pd) (q n : Nat) : ∃ m, m ≤ n ∧ (∀ i, i < m → fitB p (fAt q i) = true) ∧ ((m = n ∧ fitsTo p q n = true) ∨ (m < n ∧ fitB p (fAt q m) = false ∧ fitsTo p q n = false)) := by
  induction n with
  | zero => exact ⟨0, Nat.le_refl _, fun i hi => by omega, .inl ⟨rfl, rfl⟩⟩
  | succ n ih =>
    obtain ⟨m, h1, h2, h3⟩ := ih
    rcases h3 with ⟨rfl, h3⟩ | ⟨h3, h4, h5⟩
    · cases hb : fitB p (fAt q m)
      · exact ⟨m, by omega, h2, .inr ⟨by omega, hb, by simp [fitsTo, hb]⟩⟩
      · refine ⟨m + 1, by omega, fun i hi => ?_, .inl ⟨rfl, by simp [fitsTo, hb, h3]⟩⟩
        by_cases e : i = m
        · subst e; exact hb
        · exact h2 i (by omega)
    · exact ⟨m, by omega, h2, .inr ⟨by omega, h4, by simp [fitsTo, h5]⟩⟩
theorem fitP_at {p : Pd} {q : Nat} (h : fitP p q = true) (i : Nat) (hi : i < (flC q).length) : fitB p (fAt q i) = true := by
  obtain ⟨m, h1, h2, h3⟩ := fit_ends p q (flC q).length
  rcases h3 with ⟨rfl, h3⟩ | ⟨h3, h4, h5⟩
  · exact h2 i hi
  · unfold fitP at h; rw [h5] at h; cases h
theorem allFit_any (p : Pd) (g g' q : Nat) (hq : q ≤ 4) (w : World) (h : PdAt w g p) (hl : FlAt w g' q) : Calls Try.prog 31 #[.pointer (some ⟨g, 0, none⟩), .slice (some ⟨g', 0, none⟩) (flC q).length (flC q).length] w fun e w' => e = .returned (.bool (fitP p q)) ∧ w = w' := by
  have HF := Lib.hid hl
  obtain ⟨m, hm1, hm2, hm3⟩ := fit_ends p q (flC q).length
  have HM2 := Lib.hid hm2
  have HM3 : Hid ((m = (flC q).length ∧ fitP p q = true) ∨ (m < (flC q).length ∧ fitB p (fAt q m) = false ∧ fitP p q = false)) := Lib.hid hm3
  have hlen := fl_len q hq
  obtain ⟨n, hn⟩ : ∃ n, (flC q).length = n := ⟨_, rfl⟩
  have HN := Lib.hid hn
  rw [hn] at hm1 HM3 hlen ⊢
  have HFA := Lib.hid (fun f hf => fits_any p g f hf w h)
  clear hn hm2 hm3 hl h
  go_enter Try.func31, Try.ntmps31
  go_wp2_with fail
  go_loop [9] (fun t => ∃ i : Nat, i ≤ m ∧ t = .int .i64 i) (fun t => n - (intOf t).toNat)
  case atStart => exact ⟨0, Nat.zero_le _, rfl⟩
  case round =>
    obtain ⟨i, hi, rfl⟩ := hrel
    by_cases hlt : i < n
    · have ci := HF.out.cell (i := i) (by rw [HN.out]; exact hlt)
      have hf := fAt_le q i hq
      by_cases him : i < m
      · have HS := Lib.hid (HFA.out _ hf)
        rw [HM2.out i him] at HS
        obtain ⟨f, hf'⟩ : ∃ f, fAt q i = f := ⟨_, rfl⟩
        rw [hf'] at ci HS
        clear hf' hf
        go_wp2_with fail
        refine HS.out.mono ?_
        rintro e w1 ⟨rfl, rfl⟩
        go_wp2_with fail
        go_round
        case rel => exact ⟨i + 1, by omega, by go_num⟩
        case measure => simp [intOf]; omega
      · obtain rfl : i = m := by omega
        have h3 : fitB p (fAt q i) = false ∧ fitP p q = false := by
          rcases HM3.out with h | h
          · omega
          · exact h.2
        have HS := Lib.hid (HFA.out _ hf)
        rw [h3.1] at HS
        have HQ := Lib.hid h3.2
        obtain ⟨f, hf'⟩ : ∃ f, fAt q i = f := ⟨_, rfl⟩
        rw [hf'] at ci HS
        clear hf' hf h3
        go_wp2_with fail
        refine HS.out.mono ?_
        rintro e w1 ⟨rfl, rfl⟩
        go_wp2_with fail
        go_ret
        exact ⟨by rw [HQ.out]; rfl, rfl⟩
    · obtain rfl : i = n := by omega
      have HQ : Hid (fitP p q = true) := Lib.hid (by
        rcases HM3.out with h | h
        · exact h.2
        · omega)
      go_wp2_with fail
      go_ret
      exact ⟨by rw [HQ.out]; rfl, rfl⟩
end Go.Proofs.Ytigkmcbkckfhbaa
