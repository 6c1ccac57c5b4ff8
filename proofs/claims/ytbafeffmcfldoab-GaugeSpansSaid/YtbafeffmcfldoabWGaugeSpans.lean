/- The walk of GaugeSpans: for every input the law returns true, and nothing that was there is written. No condition. -/
import Derived.Test.YtbafeffmcfldoabSpan4
import Derived.Test.YtbafeffmcfldoabAwakeG
namespace Go.Proofs.Ytbafeffmcfldoab
open Go.RowKit
set_option linter.unusedVariables false

theorem spans_loA (t : Int) (D M : Nat) (n n2 : Int) (w : World) (ht : t < 1) (ht0 : -9223372036854775808 ≤ t) (b1 : 1 ≤ n) (b2 : n ≤ 1) (b3 : 1 - 1 / 4 - 1 ≤ n) (o1 : (FloatKind.f64.format.order M D == some .gt) = true) (hm : n2 ≤ n)
    (S1 : Hid (∀ w, Calls Try.prog 7 #[.int .i64 t, .float .f64 D] w fun e w' => e = .returned (.int .i64 n) ∧ w = w'))
    (S2 : Hid (∀ w, Calls Try.prog 9 #[.int .i64 t, .float .f64 D] w fun e w' => e = .returned (.int .i64 n) ∧ w = w'))
    (S3 : Hid (∀ w, Calls Try.prog 7 #[.int .i64 t, .float .f64 M] w fun e w' => e = .returned (.int .i64 n2) ∧ w = w')) :
    Calls Try.prog 3 #[.int .i64 t, .float .f64 D, .float .f64 M] w fun e w' => e = .returned (.bool true) ∧ Below w.heap.size w w' := by
  go_enter Try.func3, Try.ntmps3
  go_wp2_with fail
  refine (S1.out _).mono ?_
  rintro e w' ⟨rfl, rfl⟩
  go_wp2_with fail
  refine (awakeG_any _).mono ?_
  rintro e w1 ⟨rfl, hb⟩
  have HB := Lib.hid hb
  clear hb
  go_wp2_with fail
  refine (S2.out _).mono ?_
  rintro e w' ⟨rfl, rfl⟩
  go_wp2_with fail
  refine (S3.out _).mono ?_
  rintro e w' ⟨rfl, rfl⟩
  go_wp2
  go_ret
  exact ⟨ret_bool (by simp <;> omega), HB.out⟩
theorem spans_loB (t : Int) (D M : Nat) (n n2 : Int) (w : World) (ht : t < 1) (ht0 : -9223372036854775808 ≤ t) (b1 : 1 ≤ n) (b2 : n ≤ 1) (b3 : 1 - 1 / 4 - 1 ≤ n) (o1 : (FloatKind.f64.format.order M D == some .gt) = false) (o2 : (FloatKind.f64.format.order M D == some .eq) = true) (hm : n2 ≤ n)
    (S1 : Hid (∀ w, Calls Try.prog 7 #[.int .i64 t, .float .f64 D] w fun e w' => e = .returned (.int .i64 n) ∧ w = w'))
    (S2 : Hid (∀ w, Calls Try.prog 9 #[.int .i64 t, .float .f64 D] w fun e w' => e = .returned (.int .i64 n) ∧ w = w'))
    (S3 : Hid (∀ w, Calls Try.prog 7 #[.int .i64 t, .float .f64 M] w fun e w' => e = .returned (.int .i64 n2) ∧ w = w')) :
    Calls Try.prog 3 #[.int .i64 t, .float .f64 D, .float .f64 M] w fun e w' => e = .returned (.bool true) ∧ Below w.heap.size w w' := by
  go_enter Try.func3, Try.ntmps3
  go_wp2_with fail
  refine (S1.out _).mono ?_
  rintro e w' ⟨rfl, rfl⟩
  go_wp2_with fail
  refine (awakeG_any _).mono ?_
  rintro e w1 ⟨rfl, hb⟩
  have HB := Lib.hid hb
  clear hb
  go_wp2_with fail
  refine (S2.out _).mono ?_
  rintro e w' ⟨rfl, rfl⟩
  go_wp2_with fail
  refine (S3.out _).mono ?_
  rintro e w' ⟨rfl, rfl⟩
  go_wp2
  go_ret
  exact ⟨ret_bool (by simp <;> omega), HB.out⟩
theorem spans_loC (t : Int) (D M : Nat) (n n2 : Int) (w : World) (ht : t < 1) (ht0 : -9223372036854775808 ≤ t) (b1 : 1 ≤ n) (b2 : n ≤ 1) (b3 : 1 - 1 / 4 - 1 ≤ n) (o1 : (FloatKind.f64.format.order M D == some .gt) = false) (o2 : (FloatKind.f64.format.order M D == some .eq) = false)
    (S1 : Hid (∀ w, Calls Try.prog 7 #[.int .i64 t, .float .f64 D] w fun e w' => e = .returned (.int .i64 n) ∧ w = w'))
    (S2 : Hid (∀ w, Calls Try.prog 9 #[.int .i64 t, .float .f64 D] w fun e w' => e = .returned (.int .i64 n) ∧ w = w'))
    (S3 : Hid (∀ w, Calls Try.prog 7 #[.int .i64 t, .float .f64 M] w fun e w' => e = .returned (.int .i64 n2) ∧ w = w')) :
    Calls Try.prog 3 #[.int .i64 t, .float .f64 D, .float .f64 M] w fun e w' => e = .returned (.bool true) ∧ Below w.heap.size w w' := by
  go_enter Try.func3, Try.ntmps3
  go_wp2_with fail
  refine (S1.out _).mono ?_
  rintro e w' ⟨rfl, rfl⟩
  go_wp2_with fail
  refine (awakeG_any _).mono ?_
  rintro e w1 ⟨rfl, hb⟩
  have HB := Lib.hid hb
  clear hb
  go_wp2_with fail
  refine (S2.out _).mono ?_
  rintro e w' ⟨rfl, rfl⟩
  go_wp2
  go_ret
  exact ⟨ret_bool (by simp <;> omega), HB.out⟩
theorem spans_midA (K : Nat) (D M : Nat) (n n2 : Int) (w : World) (ht : 1 ≤ K) (ht0 : K ≤ 1000000000) (b1 : 1 ≤ n) (b2 : n ≤ (K : Int)) (b3 : (K : Int) - (K : Int) / 4 - 1 ≤ n) (o1 : (FloatKind.f64.format.order M D == some .gt) = true) (hm : n2 ≤ n)
    (S1 : Hid (∀ w, Calls Try.prog 7 #[.int .i64 K, .float .f64 D] w fun e w' => e = .returned (.int .i64 n) ∧ w = w'))
    (S2 : Hid (∀ w, Calls Try.prog 9 #[.int .i64 K, .float .f64 D] w fun e w' => e = .returned (.int .i64 n) ∧ w = w'))
    (S3 : Hid (∀ w, Calls Try.prog 7 #[.int .i64 K, .float .f64 M] w fun e w' => e = .returned (.int .i64 n2) ∧ w = w')) :
    Calls Try.prog 3 #[.int .i64 K, .float .f64 D, .float .f64 M] w fun e w' => e = .returned (.bool true) ∧ Below w.heap.size w w' := by
  have e1 : ¬ 1000000000 < (K : Int) := by omega
  have e2 : ¬ (K : Int) < 1 := by omega
  go_enter Try.func3, Try.ntmps3
  go_wp2_with fail
  refine (S1.out _).mono ?_
  rintro e w' ⟨rfl, rfl⟩
  go_wp2_with fail
  refine (awakeG_any _).mono ?_
  rintro e w1 ⟨rfl, hb⟩
  have HB := Lib.hid hb
  clear hb
  go_wp2_with fail
  refine (S2.out _).mono ?_
  rintro e w' ⟨rfl, rfl⟩
  go_wp2_with fail
  refine (S3.out _).mono ?_
  rintro e w' ⟨rfl, rfl⟩
  go_wp2
  go_ret
  exact ⟨ret_bool (by simp <;> omega), HB.out⟩
theorem spans_midB (K : Nat) (D M : Nat) (n n2 : Int) (w : World) (ht : 1 ≤ K) (ht0 : K ≤ 1000000000) (b1 : 1 ≤ n) (b2 : n ≤ (K : Int)) (b3 : (K : Int) - (K : Int) / 4 - 1 ≤ n) (o1 : (FloatKind.f64.format.order M D == some .gt) = false) (o2 : (FloatKind.f64.format.order M D == some .eq) = true) (hm : n2 ≤ n)
    (S1 : Hid (∀ w, Calls Try.prog 7 #[.int .i64 K, .float .f64 D] w fun e w' => e = .returned (.int .i64 n) ∧ w = w'))
    (S2 : Hid (∀ w, Calls Try.prog 9 #[.int .i64 K, .float .f64 D] w fun e w' => e = .returned (.int .i64 n) ∧ w = w'))
    (S3 : Hid (∀ w, Calls Try.prog 7 #[.int .i64 K, .float .f64 M] w fun e w' => e = .returned (.int .i64 n2) ∧ w = w')) :
    Calls Try.prog 3 #[.int .i64 K, .float .f64 D, .float .f64 M] w fun e w' => e = .returned (.bool true) ∧ Below w.heap.size w w' := by
  have e1 : ¬ 1000000000 < (K : Int) := by omega
  have e2 : ¬ (K : Int) < 1 := by omega
  go_enter Try.func3, Try.ntmps3
  go_wp2_with fail
  refine (S1.out _).mono ?_
  rintro e w' ⟨rfl, rfl⟩
  go_wp2_with fail
  refine (awakeG_any _).mono ?_
  rintro e w1 ⟨rfl, hb⟩
  have HB := Lib.hid hb
  clear hb
  go_wp2_with fail
  refine (S2.out _).mono ?_
  rintro e w' ⟨rfl, rfl⟩
  go_wp2_with fail
  refine (S3.out _).mono ?_
  rintro e w' ⟨rfl, rfl⟩
  go_wp2
  go_ret
  exact ⟨ret_bool (by simp <;> omega), HB.out⟩
theorem spans_midC (K : Nat) (D M : Nat) (n n2 : Int) (w : World) (ht : 1 ≤ K) (ht0 : K ≤ 1000000000) (b1 : 1 ≤ n) (b2 : n ≤ (K : Int)) (b3 : (K : Int) - (K : Int) / 4 - 1 ≤ n) (o1 : (FloatKind.f64.format.order M D == some .gt) = false) (o2 : (FloatKind.f64.format.order M D == some .eq) = false)
    (S1 : Hid (∀ w, Calls Try.prog 7 #[.int .i64 K, .float .f64 D] w fun e w' => e = .returned (.int .i64 n) ∧ w = w'))
    (S2 : Hid (∀ w, Calls Try.prog 9 #[.int .i64 K, .float .f64 D] w fun e w' => e = .returned (.int .i64 n) ∧ w = w'))
    (S3 : Hid (∀ w, Calls Try.prog 7 #[.int .i64 K, .float .f64 M] w fun e w' => e = .returned (.int .i64 n2) ∧ w = w')) :
    Calls Try.prog 3 #[.int .i64 K, .float .f64 D, .float .f64 M] w fun e w' => e = .returned (.bool true) ∧ Below w.heap.size w w' := by
  have e1 : ¬ 1000000000 < (K : Int) := by omega
  have e2 : ¬ (K : Int) < 1 := by omega
  go_enter Try.func3, Try.ntmps3
  go_wp2_with fail
  refine (S1.out _).mono ?_
  rintro e w' ⟨rfl, rfl⟩
  go_wp2_with fail
  refine (awakeG_any _).mono ?_
  rintro e w1 ⟨rfl, hb⟩
  have HB := Lib.hid hb
  clear hb
  go_wp2_with fail
  refine (S2.out _).mono ?_
  rintro e w' ⟨rfl, rfl⟩
  go_wp2
  go_ret
  exact ⟨ret_bool (by simp <;> omega), HB.out⟩
theorem spans_hiA (t : Int) (D M : Nat) (n n2 : Int) (w : World) (ht : 1000000000 < t) (ht0 : t ≤ 9223372036854775807) (b1 : 1 ≤ n) (b2 : n ≤ 1000000000) (b3 : 1000000000 - 1000000000 / 4 - 1 ≤ n) (o1 : (FloatKind.f64.format.order M D == some .gt) = true) (hm : n2 ≤ n)
    (S1 : Hid (∀ w, Calls Try.prog 7 #[.int .i64 t, .float .f64 D] w fun e w' => e = .returned (.int .i64 n) ∧ w = w'))
    (S2 : Hid (∀ w, Calls Try.prog 9 #[.int .i64 t, .float .f64 D] w fun e w' => e = .returned (.int .i64 n) ∧ w = w'))
    (S3 : Hid (∀ w, Calls Try.prog 7 #[.int .i64 t, .float .f64 M] w fun e w' => e = .returned (.int .i64 n2) ∧ w = w')) :
    Calls Try.prog 3 #[.int .i64 t, .float .f64 D, .float .f64 M] w fun e w' => e = .returned (.bool true) ∧ Below w.heap.size w w' := by
  have e1 : ¬ t < 1 := by omega
  go_enter Try.func3, Try.ntmps3
  go_wp2_with fail
  refine (S1.out _).mono ?_
  rintro e w' ⟨rfl, rfl⟩
  go_wp2_with fail
  refine (awakeG_any _).mono ?_
  rintro e w1 ⟨rfl, hb⟩
  have HB := Lib.hid hb
  clear hb
  go_wp2_with fail
  refine (S2.out _).mono ?_
  rintro e w' ⟨rfl, rfl⟩
  go_wp2_with fail
  refine (S3.out _).mono ?_
  rintro e w' ⟨rfl, rfl⟩
  go_wp2
  go_ret
  exact ⟨ret_bool (by simp <;> omega), HB.out⟩
theorem spans_hiB (t : Int) (D M : Nat) (n n2 : Int) (w : World) (ht : 1000000000 < t) (ht0 : t ≤ 9223372036854775807) (b1 : 1 ≤ n) (b2 : n ≤ 1000000000) (b3 : 1000000000 - 1000000000 / 4 - 1 ≤ n) (o1 : (FloatKind.f64.format.order M D == some .gt) = false) (o2 : (FloatKind.f64.format.order M D == some .eq) = true) (hm : n2 ≤ n)
    (S1 : Hid (∀ w, Calls Try.prog 7 #[.int .i64 t, .float .f64 D] w fun e w' => e = .returned (.int .i64 n) ∧ w = w'))
    (S2 : Hid (∀ w, Calls Try.prog 9 #[.int .i64 t, .float .f64 D] w fun e w' => e = .returned (.int .i64 n) ∧ w = w'))
    (S3 : Hid (∀ w, Calls Try.prog 7 #[.int .i64 t, .float .f64 M] w fun e w' => e = .returned (.int .i64 n2) ∧ w = w')) :
    Calls Try.prog 3 #[.int .i64 t, .float .f64 D, .float .f64 M] w fun e w' => e = .returned (.bool true) ∧ Below w.heap.size w w' := by
  have e1 : ¬ t < 1 := by omega
  go_enter Try.func3, Try.ntmps3
  go_wp2_with fail
  refine (S1.out _).mono ?_
  rintro e w' ⟨rfl, rfl⟩
  go_wp2_with fail
  refine (awakeG_any _).mono ?_
  rintro e w1 ⟨rfl, hb⟩
  have HB := Lib.hid hb
  clear hb
  go_wp2_with fail
  refine (S2.out _).mono ?_
  rintro e w' ⟨rfl, rfl⟩
  go_wp2_with fail
  refine (S3.out _).mono ?_
  rintro e w' ⟨rfl, rfl⟩
  go_wp2
  go_ret
  exact ⟨ret_bool (by simp <;> omega), HB.out⟩
theorem spans_hiC (t : Int) (D M : Nat) (n n2 : Int) (w : World) (ht : 1000000000 < t) (ht0 : t ≤ 9223372036854775807) (b1 : 1 ≤ n) (b2 : n ≤ 1000000000) (b3 : 1000000000 - 1000000000 / 4 - 1 ≤ n) (o1 : (FloatKind.f64.format.order M D == some .gt) = false) (o2 : (FloatKind.f64.format.order M D == some .eq) = false)
    (S1 : Hid (∀ w, Calls Try.prog 7 #[.int .i64 t, .float .f64 D] w fun e w' => e = .returned (.int .i64 n) ∧ w = w'))
    (S2 : Hid (∀ w, Calls Try.prog 9 #[.int .i64 t, .float .f64 D] w fun e w' => e = .returned (.int .i64 n) ∧ w = w'))
    (S3 : Hid (∀ w, Calls Try.prog 7 #[.int .i64 t, .float .f64 M] w fun e w' => e = .returned (.int .i64 n2) ∧ w = w')) :
    Calls Try.prog 3 #[.int .i64 t, .float .f64 D, .float .f64 M] w fun e w' => e = .returned (.bool true) ∧ Below w.heap.size w w' := by
  have e1 : ¬ t < 1 := by omega
  go_enter Try.func3, Try.ntmps3
  go_wp2_with fail
  refine (S1.out _).mono ?_
  rintro e w' ⟨rfl, rfl⟩
  go_wp2_with fail
  refine (awakeG_any _).mono ?_
  rintro e w1 ⟨rfl, hb⟩
  have HB := Lib.hid hb
  clear hb
  go_wp2_with fail
  refine (S2.out _).mono ?_
  rintro e w' ⟨rfl, rfl⟩
  go_wp2
  go_ret
  exact ⟨ret_bool (by simp <;> omega), HB.out⟩
theorem walkGaugeSpans (t : Int) (D M : Nat) (w : World) (w0 : (Lit.int .i64 t).wf = true) (w1 : (Lit.float .f64 D).wf = true) (w2 : (Lit.float .f64 M).wf = true) :
    Calls Try.prog 3 #[.int .i64 t, .float .f64 D, .float .f64 M] w fun e w' => e = .returned (.bool true) ∧ Below w.heap.size w w' := by
  have bt := wf_i64 w0
  have hD : D < 18446744073709551616 := by simpa [Lit.wf] using w1
  have hM : M < 18446744073709551616 := by simpa [Lit.wf] using w2
  have S1 := Lib.hid fun w => span_any t D w bt.1 bt.2 hD
  have S2 := Lib.hid fun w => refspan_any t D w bt.1 bt.2 hD
  have S3 := Lib.hid fun w => span_any t M w bt.1 bt.2 hM
  have b := spanI_bd t D
  have hm := spanI_mono t D M
  generalize spanI t D = n at *
  generalize spanI t M = n2 at *
  unfold KI at b
  by_cases c1 : t < 1
  · rw [if_pos c1] at b
    cases o1 : (FloatKind.f64.format.order M D == some .gt)
    · cases o2 : (FloatKind.f64.format.order M D == some .eq)
      · exact spans_loC t D M n n2 w c1 bt.1 b.1 b.2.1 b.2.2 o1 o2 S1 S2 S3
      · exact spans_loB t D M n n2 w c1 bt.1 b.1 b.2.1 b.2.2 o1 o2 (hm (.inr o2)) S1 S2 S3
    · exact spans_loA t D M n n2 w c1 bt.1 b.1 b.2.1 b.2.2 o1 (hm (.inl o1)) S1 S2 S3
  · rw [if_neg c1] at b
    by_cases c2 : 1000000000 < t
    · rw [if_pos c2] at b
      cases o1 : (FloatKind.f64.format.order M D == some .gt)
      · cases o2 : (FloatKind.f64.format.order M D == some .eq)
        · exact spans_hiC t D M n n2 w c2 bt.2 b.1 b.2.1 b.2.2 o1 o2 S1 S2 S3
        · exact spans_hiB t D M n n2 w c2 bt.2 b.1 b.2.1 b.2.2 o1 o2 (hm (.inr o2)) S1 S2 S3
      · exact spans_hiA t D M n n2 w c2 bt.2 b.1 b.2.1 b.2.2 o1 (hm (.inl o1)) S1 S2 S3
    · rw [if_neg c2] at b
      obtain ⟨K, rfl⟩ : ∃ K : Nat, t = K := ⟨t.toNat, by omega⟩
      rw [Int.toNat_natCast] at b
      cases o1 : (FloatKind.f64.format.order M D == some .gt)
      · cases o2 : (FloatKind.f64.format.order M D == some .eq)
        · exact spans_midC K D M n n2 w (by omega) (by omega) b.1 b.2.1 b.2.2 o1 o2 S1 S2 S3
        · exact spans_midB K D M n n2 w (by omega) (by omega) b.1 b.2.1 b.2.2 o1 o2 (hm (.inr o2)) S1 S2 S3
      · exact spans_midA K D M n n2 w (by omega) (by omega) b.1 b.2.1 b.2.2 o1 (hm (.inl o1)) S1 S2 S3
end Go.Proofs.Ytbafeffmcfldoab
