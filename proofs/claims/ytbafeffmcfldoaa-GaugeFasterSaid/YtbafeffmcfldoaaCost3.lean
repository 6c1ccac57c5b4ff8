/- The document's Cost: the binary search finds the metric of the quotient. No condition. -/
import Derived.Test.YtbafeffmcfldoaaCost2
namespace Go.Proofs.Ytbafeffmcfldoaa
open Go.RowKit
set_option linter.unusedVariables false

/-- the search ends at c -/
theorem refCost_at (x y q : Nat) (c : Nat) (k : Int) (w w1 : World) (hq : (binOp .quo 66 (.float .f64 x) (.float .f64 y)).run Try.prog w = .ok (.float .f64 q) w1)
    (HK : ∀ W, Calls Try.prog 36 #[.float .f64 q] W fun e w' => e = .returned (.int .i64 k) ∧ W = w') (hk : (k == 0) = false) (h1 : 1 ≤ c) (h2 : c ≤ 16777214)
    (hc : ∀ m : Nat, 1 ≤ m → m < 16777214 → (FloatKind.f64.format.order (floatOfInt .f64 (m : Int)) q == some .gt || FloatKind.f64.format.order (floatOfInt .f64 (m : Int)) q == some .eq) = decide (c ≤ m)) :
    Calls Try.prog 40 #[.float .f64 x, .float .f64 y] w fun e w' => e = .returned (.int .u32 c) ∧ w1 = w' := by
  have HC := Lib.hid hc
  have K := Lib.hid HK
  clear HK hc
  go_enter Try.func40, Try.ntmps40
  go_wp2_with (go_at_call 36; refine (K.out _).mono ?_; rintro e w' ⟨rfl, rfl⟩)
  go_loop [6, 7] (fun l h => ∃ a b : Nat, 1 ≤ a ∧ a ≤ c ∧ c ≤ b ∧ b ≤ 16777214 ∧ l = .int .u32 a ∧ h = .int .u32 b) (fun l h => (intOf h - intOf l).toNat)
  case atStart => exact ⟨1, 16777214, by omega, h1, h2, by omega, rfl, rfl⟩
  case round =>
    obtain ⟨a, b, a1, a2, b1, b2, rfl, rfl⟩ := hrel
    by_cases hlt : a < b
    · go_upto_region 7 with (fail)
      obtain ⟨m, hm⟩ : ∃ m : Nat, (a : Int) + ((b : Int) - a) / 2 = m := ⟨a + (b - a) / 2, by omega⟩
      rw [hm]
      have m1 : a ≤ m := by omega
      have m2 : m < b := by omega
      have hcm := HC.out m (by omega) (by omega)
      clear hm
      cases o1 : (FloatKind.f64.format.order (floatOfInt .f64 (m : Int)) q == some .gt)
      · cases o2 : (FloatKind.f64.format.order (floatOfInt .f64 (m : Int)) q == some .eq)
        · have hle : ¬ c ≤ m := by rw [o1, o2] at hcm; simpa using hcm
          clear hcm
          go_wp2
          go_round
          case rel => exact ⟨m + 1, b, by omega, by omega, b1, b2, by go_num, rfl⟩
          case measure => simp [intOf]; omega
        · have hle : c ≤ m := by rw [o1, o2] at hcm; simpa using hcm
          clear hcm
          go_wp2
          go_round
          case rel => exact ⟨a, m, a1, a2, hle, by omega, rfl, rfl⟩
          case measure => simp [intOf]; omega
      · have hle : c ≤ m := by rw [o1] at hcm; simpa using hcm
        clear hcm
        go_wp2
        go_round
        case rel => exact ⟨a, m, a1, a2, hle, by omega, rfl, rfl⟩
        case measure => simp [intOf]; omega
    · obtain rfl : b = c := by omega
      obtain rfl : a = b := by omega
      go_wp2
      go_ret
      exact ⟨rfl, rfl⟩
theorem refCost_nan (x y q : Nat) (w w1 : World) (hq : (binOp .quo 66 (.float .f64 x) (.float .f64 y)).run Try.prog w = .ok (.float .f64 q) w1)
    (HK : ∀ W, Calls Try.prog 36 #[.float .f64 q] W fun e w' => e = .returned (.int .i64 0) ∧ W = w') :
    Calls Try.prog 40 #[.float .f64 x, .float .f64 y] w fun e w' => e = .returned (.int .u32 16777215) ∧ w1 = w' := by
  have K := Lib.hid HK
  clear HK
  go_enter Try.func40, Try.ntmps40
  go_wp2_with (go_at_call 36; refine (K.out _).mono ?_; rintro e w' ⟨rfl, rfl⟩)
  go_ret
  exact ⟨rfl, rfl⟩

theorem costN_bd (q : Nat) : 1 ≤ costN q ∧ costN q ≤ 16777215 := by
  unfold costN
  generalize ceilV (rung q) = n
  cases nanB q <;> cases sgn q <;> simp <;> (repeat' split) <;> omega
theorem costN_bd2 (q : Nat) (h : nanB q = false) : costN q ≤ 16777214 := by
  unfold costN
  rw [h]
  generalize ceilV (rung q) = n
  cases sgn q <;> simp <;> (repeat' split) <;> omega
theorem costN_ge (q m : Nat) (h : nanB q = false) (h0 : 1 ≤ m) (hm : m < 16777214) : (FloatKind.f64.format.order (floatOfInt .f64 (m : Int)) q == some .gt || FloatKind.f64.format.order (floatOfInt .f64 (m : Int)) q == some .eq) = decide (costN q ≤ m) := by
  rw [cost_ge q m h h0 (by omega)]
  have e : sgn q = true ∨ ceilV (rung q) ≤ m ↔ costN q ≤ m := by
    unfold costN
    rw [h]
    generalize ceilV (rung q) = n
    cases sgn q
    · rw [if_neg (by simp), if_neg (by simp)]
      simp only [Bool.false_eq_true, false_or]
      repeat' split
      all_goals omega
    · rw [if_neg (by simp), if_pos rfl]
      simp only [true_or, true_iff]; exact h0
  by_cases hd : costN q ≤ m
  · rw [show decide (costN q ≤ m) = true by simp [hd]]
    have := e.2 hd
    simpa using this
  · rw [show decide (costN q ≤ m) = false by simp [hd]]
    have := fun k => hd (e.1 k)
    simpa using this

theorem kindI_nan (q : Nat) : (kindI q == 0) = nanB q := by
  have := kindI_cases q
  unfold nanB
  rcases kindI_cases q with ⟨h1, h2⟩ | ⟨h1, _, h2⟩ | ⟨h1, _, h2⟩ | ⟨h1, _, h2⟩ | ⟨h1, _, h2⟩ | ⟨h0, h1, _, h2⟩ | ⟨h0, h1, _, h2⟩ <;> rw [h2] <;> unfold infR at * <;> simp <;> omega

theorem refCost_q (x y q : Nat) (w w1 : World) (hl : q < 18446744073709551616) (hq : (binOp .quo 66 (.float .f64 x) (.float .f64 y)).run Try.prog w = .ok (.float .f64 q) w1) :
    Calls Try.prog 40 #[.float .f64 x, .float .f64 y] w fun e w' => e = .returned (.int .u32 (costN q)) ∧ w1 = w' := by
  have HK := fun W => refKind_any q W hl
  have hk := kindI_nan q
  cases hn : nanB q
  · rw [hn] at hk
    exact refCost_at x y q (costN q) (kindI q) w w1 hq HK hk (costN_bd q).1 (costN_bd2 q hn) (fun m h0 hm => costN_ge q m hn h0 hm)
  · rw [hn] at hk
    rw [costN_nan q hn]
    have e : kindI q = 0 := by simpa using hk
    rw [e] at HK
    exact refCost_nan x y q w w1 hq HK

/-- the metric of a link, by the two words -/
def costD (x y : Nat) : Nat := match FloatKind.f64.format.div x y with | some r => costN r | none => 16777215
theorem costD_some (x y r : Nat) (h : FloatKind.f64.format.div x y = some r) : costD x y = costN r := by unfold costD; rw [h]
theorem costD_none (x y : Nat) (h : FloatKind.f64.format.div x y = none) : costD x y = 16777215 := by unfold costD; rw [h]
theorem costD_bd (x y : Nat) : 1 ≤ costD x y ∧ costD x y ≤ 16777215 := by
  cases h : FloatKind.f64.format.div x y
  · rw [costD_none x y h]; omega
  · rw [costD_some x y _ h]; exact costN_bd _

theorem cost_any (x y : Nat) (w : World) : Calls Try.prog 39 #[.float .f64 x, .float .f64 y] w fun e w' => e = .returned (.int .u32 (costD x y)) ∧ Below w.heap.size w w' := by
  cases h : FloatKind.f64.format.div x y
  · rw [costD_none x y h]
    exact (cost_none x y w h).mono fun e w' k => ⟨k.1, k.2 ▸ (Below.refl _ _).drew⟩
  · rw [costD_some x y _ h]
    exact (cost_some x y _ w h).mono fun e w' k => ⟨k.1, k.2 ▸ Below.refl _ _⟩
theorem refCost_any (x y : Nat) (w : World) : Calls Try.prog 40 #[.float .f64 x, .float .f64 y] w fun e w' => e = .returned (.int .u32 (costD x y)) ∧ Below w.heap.size w w' := by
  cases h : FloatKind.f64.format.div x y
  · rw [costD_none x y h, ← costN_nan _ (nanD_nan w x y)]
    exact (refCost_q x y _ w _ (nanD_lt w x y) (run_quo_none _ _ _ _ _ h)).mono fun e w' k => ⟨k.1, k.2 ▸ (Below.refl _ _).drew⟩
  · rw [costD_some x y _ h]
    exact (refCost_q x y _ w w (Ieee.Format.div_lt _ h) (run_float_arith w .quo _ .f64 _ _ _ h)).mono fun e w' k => ⟨k.1, k.2 ▸ Below.refl _ _⟩
end Go.Proofs.Ytbafeffmcfldoaa
