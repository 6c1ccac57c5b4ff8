/- gauge.Span answers Span's number: the cases of the draw. Each theorem states its conditions. -/
import Derived.Test.YtbafeffmcfldoabSpan2
namespace Go.Proofs.Ytbafeffmcfldoab
open Go.RowKit
set_option linter.unusedVariables false

theorem NW_mono (a b : Nat) (a0 : 0 < a) (h : a ≤ b) (hb : b < 9007199254740992) : NW a ≤ NW b := by
  rw [V_le, V_NW a a0 (by omega), V_NW b (by omega) hb]
  exact Nat.mul_le_mul_right _ h
theorem gt_one (D : Nat) (h : nanB D = false) : (FloatKind.f64.format.order D 4607182418800017408 == some .gt) = (!sgn D && decide (NW 1 < rung D)) := by
  have hq : rung D ≤ infR := by unfold nanB at h; simpa using h
  rw [fo_key D _ hq (by decide), key_of_lt 4607182418800017408 (by decide), one_NW]
  have hp : 0 < NW 1 := by decide
  generalize NW 1 = n at *
  unfold key
  cases hs : sgn D <;> simp only [if_true, if_false, Bool.false_eq_true, Bool.not_true, Bool.not_false, Bool.true_and, Bool.false_and]
  · rcases Nat.lt_trichotomy (rung D) n with h1 | h1 | h1
    · rw [cmp_lt (by omega)]; simp; omega
    · rw [cmp_eq (by omega)]; simp; omega
    · rw [cmp_gt (by omega)]; simp; omega
  · rw [cmp_lt (by omega)]; rfl

theorem span_pos (t : Int) (D d : Nat) (w : World) (t0 : -9223372036854775808 ≤ t) (t1 : t ≤ 9223372036854775807) (hd : dN D = d)
    (H : (nanB D = true ∧ d = 0) ∨ (nanB D = false ∧ (FloatKind.f64.format.order D 0 == some .lt) = true ∧ d = 0) ∨ (nanB D = false ∧ (FloatKind.f64.format.order D 0 == some .lt) = false ∧ (FloatKind.f64.format.order D 4607182418800017408 == some .gt) = true ∧ d = 4607182418800017408) ∨ (nanB D = false ∧ (FloatKind.f64.format.order D 0 == some .lt) = false ∧ (FloatKind.f64.format.order D 4607182418800017408 == some .gt) = false ∧ d = D)) :
    Calls Try.prog 7 #[.int .i64 t, .float .f64 D] w fun e w' => e = .returned (.int .i64 (spanI t D)) ∧ w = w' := by
  have hb := KI_bd t
  obtain ⟨p, q, e1, e2, l, e, z⟩ := less_spec (KI t) d hb.1 hb.2 (by rw [← hd]; exact dN_le D)
  have hf := less_le (KI t) d hb.1 hb.2 (by rw [← hd]; exact dN_le D)
  rw [e] at hf
  have hq : q ≤ NW 1000000000 := Nat.le_trans l (NW_mono _ _ (by omega) (by omega) (by omega))
  exact span_go t D d p q (NZ (floorV q)) (floorV q) w t0 t1 (by omega) (by unfold spanI; rw [hd, e])
    (fun w => run_float_arith w .mul _ .f64 _ _ _ e1) (fun w => run_float_arith w .quo _ .f64 _ _ _ e2) (fun w => floor_any q w hq) (fun w => conv64 _ w (by omega)) H

theorem span_any (t : Int) (D : Nat) (w : World) (t0 : -9223372036854775808 ≤ t) (t1 : t ≤ 9223372036854775807) (hD : D < 18446744073709551616) :
    Calls Try.prog 7 #[.int .i64 t, .float .f64 D] w fun e w' => e = .returned (.int .i64 (spanI t D)) ∧ w = w' := by
  have hd : dN D = if nanB D || sgn D then 0 else if NW 1 < rung D then NW 1 else rung D := rfl
  cases hn : nanB D
  · obtain ⟨f1, _⟩ := kind_facts D hn
    have f2 := gt_one D hn
    rw [hn] at hd
    cases hs : sgn D
    · rw [hs] at f1 f2 hd
      have f1' : (FloatKind.f64.format.order D 0 == some .lt) = false := by rw [f1]; rfl
      rw [if_neg (by simp)] at hd
      by_cases h1 : NW 1 < rung D
      · rw [if_pos h1] at hd
        exact span_pos t D _ w t0 t1 hd (.inr (.inr (.inl ⟨hn, f1', by rw [f2]; simp [h1], one_NW.symm⟩)))
      · rw [if_neg h1] at hd
        have hr : rung D = D := by
          unfold sgn at hs; unfold rung
          have : D / 9223372036854775808 % 2 = 0 ∨ D / 9223372036854775808 % 2 = 1 := by omega
          rcases this with e | e
          · omega
          · rw [e] at hs; exact absurd hs (by decide)
        exact span_pos t D _ w t0 t1 hd (.inr (.inr (.inr ⟨hn, f1', by rw [f2]; simp [h1], hr⟩)))
    · rw [hs] at f1 f2 hd
      rw [if_pos (by simp)] at hd
      by_cases h1 : rung D = 0
      · have e : D = 9223372036854775808 := by
          unfold sgn at hs; unfold rung at h1
          have : D / 9223372036854775808 % 2 = 0 ∨ D / 9223372036854775808 % 2 = 1 := by omega
          rcases this with e | e
          · rw [e] at hs; exact absurd hs (by decide)
          · omega
        subst e
        have hb := KI_bd t
        obtain ⟨w1, w2⟩ := NW_word (KI t) hb.1 (by omega)
        have wl := NW_lt (KI t) hb.1 (by omega)
        exact span_go t _ _ _ _ _ 0 w t0 t1 (by omega) (by unfold spanI; rw [hd, less_zero _ hb.1 hb.2])
          (fun w => run_float_arith w .mul _ .f64 _ _ _ (mul_neg _ w2 (by omega))) (fun w => run_float_arith w .quo _ .f64 _ _ _ div_neg) (fun w => floor_neg w) (fun w => conv64_neg w)
          (.inr (.inr (.inr ⟨hn, by rw [f1]; simp [h1], by rw [f2]; rfl, rfl⟩)))
      · exact span_pos t D 0 w t0 t1 hd (.inr (.inl ⟨hn, by rw [f1]; simp [h1], rfl⟩))
  · rw [hn] at hd
    exact span_pos t D 0 w t0 t1 (by rw [hd]; rfl) (.inl ⟨hn, rfl⟩)

/-- a greater draw -/
theorem dN_mono (a b : Nat) (h : (FloatKind.f64.format.order b a == some .gt) = true ∨ (FloatKind.f64.format.order b a == some .eq) = true) : dN a ≤ dN b := by
  by_cases ha : infR < rung a
  · rw [fo_nan b a (.inr ha)] at h; exact absurd h (by decide)
  by_cases hb : infR < rung b
  · rw [fo_nan b a (.inl hb)] at h; exact absurd h (by decide)
  rw [fo_key b a (by omega) (by omega)] at h
  have hk : key a ≤ key b := by
    apply Classical.byContradiction
    intro hl
    rw [cmp_lt (by omega)] at h
    exact absurd h (by decide)
  unfold key at hk
  have na : nanB a = false := by unfold nanB; simp; omega
  have nb : nanB b = false := by unfold nanB; simp; omega
  unfold dN
  rw [na, nb]
  cases hs : sgn a
  · rw [hs, if_neg (by simp)] at hk
    cases ht : sgn b
    · rw [ht, if_neg (by simp)] at hk
      simp only [Bool.or_false, Bool.false_eq_true, if_false]
      split <;> split <;> omega
    · rw [ht, if_pos rfl] at hk
      have : rung a = 0 := by omega
      rw [if_neg (by simp), this, if_neg (by omega)]
      exact Nat.zero_le _
  · rw [if_pos (by simp)]; exact Nat.zero_le _
theorem spanI_mono (t : Int) (a b : Nat) (h : (FloatKind.f64.format.order b a == some .gt) = true ∨ (FloatKind.f64.format.order b a == some .eq) = true) : spanI t b ≤ spanI t a := by
  have hb := KI_bd t
  have := less_mono (KI t) (dN a) (dN b) hb.1 hb.2 (dN_mono a b h) (dN_le b)
  unfold spanI
  omega
theorem spanI_bd (t : Int) (D : Nat) : 1 ≤ spanI t D ∧ spanI t D ≤ KI t ∧ (KI t : Int) - (KI t : Int) / 4 - 1 ≤ spanI t D := by
  have hb := KI_bd t
  have := less_le (KI t) (dN D) hb.1 hb.2 (dN_le D)
  unfold spanI
  omega

/-- the document's Under: the greatest whole number that is not above -/
theorem under_any (q K : Nat) (w : World) (hq : q ≤ infR) (hK : K ≤ 1000000000) (hf : floorV q ≤ K) :
    Calls Try.prog 19 #[.float .f64 q, .int .i64 K] w fun e w' => e = .returned (.int .i64 (floorV q : Nat)) ∧ w = w' := by
  have HC : Hid (∀ m : Nat, 1 ≤ m → m ≤ 1000000000 → (FloatKind.f64.format.order (floatOfInt .f64 (m : Int)) q == some .lt || FloatKind.f64.format.order (floatOfInt .f64 (m : Int)) q == some .eq) = decide (m ≤ floorV q)) := Lib.hid (by
    intro m m0 m1
    obtain ⟨w1, w2⟩ := rung_of_lt q (by unfold infR at hq; omega)
    obtain ⟨u1, u2⟩ := NW_word m m0 (by omega)
    have ul := NW_lt m m0 (by omega)
    rw [floatOfInt_whole m m0 (by omega), fo_key _ q (by rw [u1]; omega) (by rw [w1]; exact hq)]
    have hg := NW_ge q m m0 (by omega)
    unfold key
    rw [u1, u2, w1, w2]
    simp only [if_false, Bool.false_eq_true]
    generalize NW m = n at *
    generalize floorV q = f at *
    rcases Nat.lt_trichotomy n q with h1 | h1 | h1
    · rw [cmp_lt (by omega)]; simp; omega
    · rw [cmp_eq (by omega)]; simp; omega
    · rw [cmp_gt (by omega)]; simp; omega)
  clear hq
  generalize floorV q = c at *
  go_enter Try.func19, Try.ntmps19
  go_wp2_with fail
  go_loop [5, 6] (fun l h => ∃ a b : Nat, a ≤ c ∧ c ≤ b ∧ b ≤ K ∧ l = .int .i64 a ∧ h = .int .i64 b) (fun l h => (intOf h - intOf l).toNat)
  case atStart => exact ⟨0, K, by omega, hf, by omega, rfl, rfl⟩
  case round =>
    obtain ⟨a, b, a2, b1, b2, rfl, rfl⟩ := hrel
    by_cases hlt : a < b
    · go_upto_region 4 with (fail)
      obtain ⟨m, hm⟩ : ∃ m : Nat, (a : Int) + ((b : Int) - a + 1) / 2 = m := ⟨a + (b - a + 1) / 2, by omega⟩
      rw [hm]
      have m1 : a < m := by omega
      have m2 : m ≤ b := by omega
      have hcm := HC.out m (by omega) (by omega)
      clear hm
      cases o1 : (FloatKind.f64.format.order (floatOfInt .f64 (m : Int)) q == some .lt)
      · cases o2 : (FloatKind.f64.format.order (floatOfInt .f64 (m : Int)) q == some .eq)
        · have hle : ¬ m ≤ c := by rw [o1, o2] at hcm; simpa using hcm
          clear hcm
          go_wp2
          go_round
          case rel => exact ⟨a, m - 1, a2, by omega, by omega, rfl, by go_num⟩
          case measure => simp [intOf]; omega
        · have hle : m ≤ c := by rw [o1, o2] at hcm; simpa using hcm
          clear hcm
          go_wp2
          go_round
          case rel => exact ⟨m, b, hle, b1, b2, rfl, rfl⟩
          case measure => simp [intOf]; omega
      · have hle : m ≤ c := by rw [o1] at hcm; simpa using hcm
        clear hcm
        go_wp2
        go_round
        case rel => exact ⟨m, b, hle, b1, b2, rfl, rfl⟩
        case measure => simp [intOf]; omega
    · obtain rfl : b = c := by omega
      obtain rfl : a = b := by omega
      go_wp2
      go_ret
      exact ⟨rfl, rfl⟩
end Go.Proofs.Ytbafeffmcfldoab
