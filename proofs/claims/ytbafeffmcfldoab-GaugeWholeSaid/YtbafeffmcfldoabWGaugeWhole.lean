/- The walk of GaugeWhole: for every input the law returns true, and nothing that was there is written. No condition. -/
import Derived.Test.YtbafeffmcfldoabWhole
import Derived.Test.YtbafeffmcfldoabAwakeG
namespace Go.Proofs.Ytbafeffmcfldoab
open Go.RowKit
set_option linter.unusedVariables false

theorem wholeTop (n0 n1 X Y : Nat) (w : World) (hf1 : floatOfInt .f64 ((n0 : Int) + 1) = X) (hf2 : floatOfInt .f64 ((n1 : Int) + 1) = Y) (l0 : n0 ≤ 4294967295) (l1 : n1 ≤ 4294967295)
    (C : Hid (∀ w, Calls Try.prog 14 #[.float .f64 X, .float .f64 Y] w fun e w' => e = .returned (.int .u32 16777214) ∧ Below w.heap.size w w')) (h : ((n1 : Int) + 1) * 16777213 < (n0 : Int) + 1) :
    Calls Try.prog 5 #[.int .u32 n0, .int .u32 n1] w fun e w' => e = .returned (.bool true) ∧ Below w.heap.size w w' := by
  go_enter Try.func5, Try.ntmps5
  go_wp2_with fail
  refine (awakeG_any _).mono ?_
  rintro e w1 ⟨rfl, hb1⟩
  go_wp2_with fail
  refine (C.out _).mono ?_
  rintro e w2 ⟨rfl, hb2⟩
  go_wp2
  go_ret
  exact ⟨ret_bool (by simp <;> omega), hb1.trans (hb2.mono hb1.size)⟩

theorem wholeMid (n0 n1 X Y k p : Nat) (w : World) (hf1 : floatOfInt .f64 ((n0 : Int) + 1) = X) (hf2 : floatOfInt .f64 ((n1 : Int) + 1) = Y) (l0 : n0 ≤ 4294967295) (l1 : n1 ≤ 4294967295)
    (C : Hid (∀ w, Calls Try.prog 14 #[.float .f64 X, .float .f64 Y] w fun e w' => e = .returned (.int .u32 k) ∧ Below w.heap.size w w')) (k0 : 1 ≤ k) (k1 : k < 16777214)
    (hp : (k : Int) * ((n1 : Int) + 1) = p) (hp1 : ((k : Int) - 1) * ((n1 : Int) + 1) = p - (n1 + 1)) (pl : p ≤ 72057594037927936) (h : n0 + 1 ≤ p) (h2 : k = 1 ∨ (p : Int) - (n1 + 1) < n0 + 1) (hpn : (n1 : Int) + 1 ≤ p) :
    Calls Try.prog 5 #[.int .u32 n0, .int .u32 n1] w fun e w' => e = .returned (.bool true) ∧ Below w.heap.size w w' := by
  have ne : ((k : Int) == 16777214) = false := by simp; omega
  have H2 : Hid (k = 1 ∨ (p : Int) - (n1 + 1) < n0 + 1) := Lib.hid h2
  have h3 : ¬ (p : Int) < (n0 : Int) + 1 := by omega
  clear h2
  go_enter Try.func5, Try.ntmps5
  go_wp2_with fail
  refine (awakeG_any _).mono ?_
  rintro e w1 ⟨rfl, hb1⟩
  go_wp2_with fail
  refine (C.out _).mono ?_
  rintro e w2 ⟨rfl, hb2⟩
  rcases Nat.lt_or_ge 1 k with h1 | h1
  · have e1 : ((k : Int) == 1) = false := by simp; omega
    have h5 : (p : Int) - (n1 + 1) < n0 + 1 := by rcases H2.out with h | h <;> omega
    clear H2
    go_wp2
    go_ret
    exact ⟨ret_bool (by simp <;> omega), hb1.trans (hb2.mono hb1.size)⟩
  · obtain rfl : k = 1 := by omega
    clear H2
    go_wp2
    go_ret
    exact ⟨ret_bool (by simp <;> omega), hb1.trans (hb2.mono hb1.size)⟩

theorem walkGaugeWhole (a0 a1 : Int) (w : World) (w0 : (Lit.int .u32 a0).wf = true) (w1 : (Lit.int .u32 a1).wf = true) :
    Calls Try.prog 5 #[.int .u32 a0, .int .u32 a1] w fun e w' => e = .returned (.bool true) ∧ Below w.heap.size w w' := by
  have b0 := wf_u32 w0
  have b1 := wf_u32 w1
  obtain ⟨n0, rfl⟩ := Int.eq_ofNat_of_zero_le b0.1
  obtain ⟨n1, rfl⟩ := Int.eq_ofNat_of_zero_le b1.1
  have f0 : floatOfInt .f64 ((n0 : Int) + 1) = NW (n0 + 1) := floatOfInt_whole (n0 + 1) (by omega) (by omega)
  have f1 : floatOfInt .f64 ((n1 : Int) + 1) = NW (n1 + 1) := floatOfInt_whole (n1 + 1) (by omega) (by omega)
  have C := Lib.hid fun w => cost_any (NW (n0 + 1)) (NW (n1 + 1)) w
  rcases whole_cost (n0 + 1) (n1 + 1) (by omega) (by omega) (by omega) (by omega) with ⟨e, h⟩ | ⟨k1, k0, h, h2⟩
  · rw [e] at C
    exact wholeTop n0 n1 _ _ w f0 f1 (by omega) (by omega) C (by omega)
  · generalize costD (NW (n0 + 1)) (NW (n1 + 1)) = k at *
    have pl : k * (n1 + 1) ≤ 16777216 * 4294967296 := Nat.mul_le_mul (by omega) (by omega)
    have pn : 1 * (n1 + 1) ≤ k * (n1 + 1) := Nat.mul_le_mul_right _ k0
    have hp1 : ((k : Int) - 1) * ((n1 : Int) + 1) = (k * (n1 + 1) : Nat) - (n1 + 1) := by
      rw [Int.sub_mul, Int.one_mul]; push_cast; rfl
    refine wholeMid n0 n1 _ _ k (k * (n1 + 1)) w f0 f1 (by omega) (by omega) C k0 k1 (by push_cast; rfl) hp1 (by omega) (by omega) ?_ (by omega)
    rcases h2 with h2 | h2
    · exact .inl h2
    · right
      rw [Nat.sub_mul, Nat.one_mul] at h2
      omega
end Go.Proofs.Ytbafeffmcfldoab
