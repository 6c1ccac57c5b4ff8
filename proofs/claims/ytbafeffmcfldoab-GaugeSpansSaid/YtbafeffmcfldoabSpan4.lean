/- The document's Span answers Span's number. Each theorem states its conditions. -/
import Derived.Test.YtbafeffmcfldoabSpan3
import Derived.Test.YtbafeffmcfldoabGauge2
namespace Go.Proofs.Ytbafeffmcfldoab
open Go.RowKit
set_option linter.unusedVariables false

theorem refspan_loA (t : Int) (D p q l : Nat) (n k : Int) (w : World) (ht : t < 1) (ht0 : -9223372036854775808 ≤ t) (hk : n = max (1 - (l : Int)) 1) (hl : l ≤ 1000000000)
    (hn : k < 5) (hn0 : 0 ≤ k) (X : Nat) (hX : floatOfInt .f64 1 = X)
    (KK : Hid (∀ w, Calls Try.prog 18 #[.float .f64 D] w fun e w' => e = .returned (.int .i64 k) ∧ w = w'))
    (hm : ∀ w, (binOp .mul 22 (.float .f64 X) (.float .f64 0)).run Try.prog w = .ok (.float .f64 p) w)
    (hq : ∀ w, (binOp .quo 22 (.float .f64 p) (.float .f64 4616189618054758400)).run Try.prog w = .ok (.float .f64 q) w)
    (HU : Hid (∀ w, Calls Try.prog 19 #[.float .f64 q, .int .i64 1] w fun e w' => e = .returned (.int .i64 (l : Nat)) ∧ w = w')) :
    Calls Try.prog 9 #[.int .i64 t, .float .f64 D] w fun e w' => e = .returned (.int .i64 n) ∧ w = w' := by
  have HK := Lib.hid hk
  clear hk
  have k1 : ¬ 5 ≤ k := by omega
  go_enter Try.func9, Try.ntmps9
  go_wp2_with (first | (go_at_call 18; refine (KK.out _).mono ?_; rintro e w' ⟨rfl, rfl⟩) | (go_at_call 19; refine (HU.out _).mono ?_; rintro e w' ⟨rfl, rfl⟩))
  all_goals
    go_ret
    have hk := HK.out
    exact ⟨ret_int (by omega), rfl⟩
theorem refspan_loC (t : Int) (D p q l : Nat) (n k : Int) (w : World) (ht : t < 1) (ht0 : -9223372036854775808 ≤ t) (hk : n = max (1 - (l : Int)) 1) (hl : l ≤ 1000000000)
    (hn : 5 ≤ k) (hn0 : k ≤ 6) (o2 : (FloatKind.f64.format.order D 4607182418800017408 == some .gt) = true) (X : Nat) (hX : floatOfInt .f64 1 = X)
    (KK : Hid (∀ w, Calls Try.prog 18 #[.float .f64 D] w fun e w' => e = .returned (.int .i64 k) ∧ w = w'))
    (hm : ∀ w, (binOp .mul 22 (.float .f64 X) (.float .f64 4607182418800017408)).run Try.prog w = .ok (.float .f64 p) w)
    (hq : ∀ w, (binOp .quo 22 (.float .f64 p) (.float .f64 4616189618054758400)).run Try.prog w = .ok (.float .f64 q) w)
    (HU : Hid (∀ w, Calls Try.prog 19 #[.float .f64 q, .int .i64 1] w fun e w' => e = .returned (.int .i64 (l : Nat)) ∧ w = w')) :
    Calls Try.prog 9 #[.int .i64 t, .float .f64 D] w fun e w' => e = .returned (.int .i64 n) ∧ w = w' := by
  have HK := Lib.hid hk
  clear hk
  have k1 : ¬ k < 5 := by omega
  go_enter Try.func9, Try.ntmps9
  go_wp2_with (first | (go_at_call 18; refine (KK.out _).mono ?_; rintro e w' ⟨rfl, rfl⟩) | (go_at_call 19; refine (HU.out _).mono ?_; rintro e w' ⟨rfl, rfl⟩))
  all_goals
    go_ret
    have hk := HK.out
    exact ⟨ret_int (by omega), rfl⟩
theorem refspan_loD (t : Int) (D p q l : Nat) (n k : Int) (w : World) (ht : t < 1) (ht0 : -9223372036854775808 ≤ t) (hk : n = max (1 - (l : Int)) 1) (hl : l ≤ 1000000000)
    (hn : 5 ≤ k) (hn0 : k ≤ 6) (o2 : (FloatKind.f64.format.order D 4607182418800017408 == some .gt) = false) (X : Nat) (hX : floatOfInt .f64 1 = X)
    (KK : Hid (∀ w, Calls Try.prog 18 #[.float .f64 D] w fun e w' => e = .returned (.int .i64 k) ∧ w = w'))
    (hm : ∀ w, (binOp .mul 22 (.float .f64 X) (.float .f64 D)).run Try.prog w = .ok (.float .f64 p) w)
    (hq : ∀ w, (binOp .quo 22 (.float .f64 p) (.float .f64 4616189618054758400)).run Try.prog w = .ok (.float .f64 q) w)
    (HU : Hid (∀ w, Calls Try.prog 19 #[.float .f64 q, .int .i64 1] w fun e w' => e = .returned (.int .i64 (l : Nat)) ∧ w = w')) :
    Calls Try.prog 9 #[.int .i64 t, .float .f64 D] w fun e w' => e = .returned (.int .i64 n) ∧ w = w' := by
  have HK := Lib.hid hk
  clear hk
  have k1 : ¬ k < 5 := by omega
  go_enter Try.func9, Try.ntmps9
  go_wp2_with (first | (go_at_call 18; refine (KK.out _).mono ?_; rintro e w' ⟨rfl, rfl⟩) | (go_at_call 19; refine (HU.out _).mono ?_; rintro e w' ⟨rfl, rfl⟩))
  all_goals
    go_ret
    have hk := HK.out
    exact ⟨ret_int (by omega), rfl⟩
theorem refspan_midA (K : Nat) (D p q l : Nat) (n k : Int) (w : World) (ht : 1 ≤ K) (ht0 : K ≤ 1000000000) (hk : n = max ((K : Int) - l) 1) (hl : l ≤ 1000000000)
    (hn : k < 5) (hn0 : 0 ≤ k) (X : Nat) (hX : floatOfInt .f64 (K : Int) = X)
    (KK : Hid (∀ w, Calls Try.prog 18 #[.float .f64 D] w fun e w' => e = .returned (.int .i64 k) ∧ w = w'))
    (hm : ∀ w, (binOp .mul 22 (.float .f64 X) (.float .f64 0)).run Try.prog w = .ok (.float .f64 p) w)
    (hq : ∀ w, (binOp .quo 22 (.float .f64 p) (.float .f64 4616189618054758400)).run Try.prog w = .ok (.float .f64 q) w)
    (HU : Hid (∀ w, Calls Try.prog 19 #[.float .f64 q, .int .i64 (K : Int)] w fun e w' => e = .returned (.int .i64 (l : Nat)) ∧ w = w')) :
    Calls Try.prog 9 #[.int .i64 K, .float .f64 D] w fun e w' => e = .returned (.int .i64 n) ∧ w = w' := by
  have HK := Lib.hid hk
  clear hk
  have k1 : ¬ 5 ≤ k := by omega
  have e1 : ¬ (K : Int) < 1 := by omega
  have e2 : ¬ 1000000000 < (K : Int) := by omega
  go_enter Try.func9, Try.ntmps9
  go_wp2_with (first | (go_at_call 18; refine (KK.out _).mono ?_; rintro e w' ⟨rfl, rfl⟩) | (go_at_call 19; refine (HU.out _).mono ?_; rintro e w' ⟨rfl, rfl⟩))
  all_goals
    go_ret
    have hk := HK.out
    exact ⟨ret_int (by omega), rfl⟩
theorem refspan_midC (K : Nat) (D p q l : Nat) (n k : Int) (w : World) (ht : 1 ≤ K) (ht0 : K ≤ 1000000000) (hk : n = max ((K : Int) - l) 1) (hl : l ≤ 1000000000)
    (hn : 5 ≤ k) (hn0 : k ≤ 6) (o2 : (FloatKind.f64.format.order D 4607182418800017408 == some .gt) = true) (X : Nat) (hX : floatOfInt .f64 (K : Int) = X)
    (KK : Hid (∀ w, Calls Try.prog 18 #[.float .f64 D] w fun e w' => e = .returned (.int .i64 k) ∧ w = w'))
    (hm : ∀ w, (binOp .mul 22 (.float .f64 X) (.float .f64 4607182418800017408)).run Try.prog w = .ok (.float .f64 p) w)
    (hq : ∀ w, (binOp .quo 22 (.float .f64 p) (.float .f64 4616189618054758400)).run Try.prog w = .ok (.float .f64 q) w)
    (HU : Hid (∀ w, Calls Try.prog 19 #[.float .f64 q, .int .i64 (K : Int)] w fun e w' => e = .returned (.int .i64 (l : Nat)) ∧ w = w')) :
    Calls Try.prog 9 #[.int .i64 K, .float .f64 D] w fun e w' => e = .returned (.int .i64 n) ∧ w = w' := by
  have HK := Lib.hid hk
  clear hk
  have k1 : ¬ k < 5 := by omega
  have e1 : ¬ (K : Int) < 1 := by omega
  have e2 : ¬ 1000000000 < (K : Int) := by omega
  go_enter Try.func9, Try.ntmps9
  go_wp2_with (first | (go_at_call 18; refine (KK.out _).mono ?_; rintro e w' ⟨rfl, rfl⟩) | (go_at_call 19; refine (HU.out _).mono ?_; rintro e w' ⟨rfl, rfl⟩))
  all_goals
    go_ret
    have hk := HK.out
    exact ⟨ret_int (by omega), rfl⟩
theorem refspan_midD (K : Nat) (D p q l : Nat) (n k : Int) (w : World) (ht : 1 ≤ K) (ht0 : K ≤ 1000000000) (hk : n = max ((K : Int) - l) 1) (hl : l ≤ 1000000000)
    (hn : 5 ≤ k) (hn0 : k ≤ 6) (o2 : (FloatKind.f64.format.order D 4607182418800017408 == some .gt) = false) (X : Nat) (hX : floatOfInt .f64 (K : Int) = X)
    (KK : Hid (∀ w, Calls Try.prog 18 #[.float .f64 D] w fun e w' => e = .returned (.int .i64 k) ∧ w = w'))
    (hm : ∀ w, (binOp .mul 22 (.float .f64 X) (.float .f64 D)).run Try.prog w = .ok (.float .f64 p) w)
    (hq : ∀ w, (binOp .quo 22 (.float .f64 p) (.float .f64 4616189618054758400)).run Try.prog w = .ok (.float .f64 q) w)
    (HU : Hid (∀ w, Calls Try.prog 19 #[.float .f64 q, .int .i64 (K : Int)] w fun e w' => e = .returned (.int .i64 (l : Nat)) ∧ w = w')) :
    Calls Try.prog 9 #[.int .i64 K, .float .f64 D] w fun e w' => e = .returned (.int .i64 n) ∧ w = w' := by
  have HK := Lib.hid hk
  clear hk
  have k1 : ¬ k < 5 := by omega
  have e1 : ¬ (K : Int) < 1 := by omega
  have e2 : ¬ 1000000000 < (K : Int) := by omega
  go_enter Try.func9, Try.ntmps9
  go_wp2_with (first | (go_at_call 18; refine (KK.out _).mono ?_; rintro e w' ⟨rfl, rfl⟩) | (go_at_call 19; refine (HU.out _).mono ?_; rintro e w' ⟨rfl, rfl⟩))
  all_goals
    go_ret
    have hk := HK.out
    exact ⟨ret_int (by omega), rfl⟩
theorem refspan_hiA (t : Int) (D p q l : Nat) (n k : Int) (w : World) (ht : 1000000000 < t) (ht0 : t ≤ 9223372036854775807) (hk : n = max (1000000000 - (l : Int)) 1) (hl : l ≤ 1000000000)
    (hn : k < 5) (hn0 : 0 ≤ k) (X : Nat) (hX : floatOfInt .f64 1000000000 = X)
    (KK : Hid (∀ w, Calls Try.prog 18 #[.float .f64 D] w fun e w' => e = .returned (.int .i64 k) ∧ w = w'))
    (hm : ∀ w, (binOp .mul 22 (.float .f64 X) (.float .f64 0)).run Try.prog w = .ok (.float .f64 p) w)
    (hq : ∀ w, (binOp .quo 22 (.float .f64 p) (.float .f64 4616189618054758400)).run Try.prog w = .ok (.float .f64 q) w)
    (HU : Hid (∀ w, Calls Try.prog 19 #[.float .f64 q, .int .i64 1000000000] w fun e w' => e = .returned (.int .i64 (l : Nat)) ∧ w = w')) :
    Calls Try.prog 9 #[.int .i64 t, .float .f64 D] w fun e w' => e = .returned (.int .i64 n) ∧ w = w' := by
  have HK := Lib.hid hk
  clear hk
  have k1 : ¬ 5 ≤ k := by omega
  have e1 : ¬ t < 1 := by omega
  go_enter Try.func9, Try.ntmps9
  go_wp2_with (first | (go_at_call 18; refine (KK.out _).mono ?_; rintro e w' ⟨rfl, rfl⟩) | (go_at_call 19; refine (HU.out _).mono ?_; rintro e w' ⟨rfl, rfl⟩))
  all_goals
    go_ret
    have hk := HK.out
    exact ⟨ret_int (by omega), rfl⟩
theorem refspan_hiC (t : Int) (D p q l : Nat) (n k : Int) (w : World) (ht : 1000000000 < t) (ht0 : t ≤ 9223372036854775807) (hk : n = max (1000000000 - (l : Int)) 1) (hl : l ≤ 1000000000)
    (hn : 5 ≤ k) (hn0 : k ≤ 6) (o2 : (FloatKind.f64.format.order D 4607182418800017408 == some .gt) = true) (X : Nat) (hX : floatOfInt .f64 1000000000 = X)
    (KK : Hid (∀ w, Calls Try.prog 18 #[.float .f64 D] w fun e w' => e = .returned (.int .i64 k) ∧ w = w'))
    (hm : ∀ w, (binOp .mul 22 (.float .f64 X) (.float .f64 4607182418800017408)).run Try.prog w = .ok (.float .f64 p) w)
    (hq : ∀ w, (binOp .quo 22 (.float .f64 p) (.float .f64 4616189618054758400)).run Try.prog w = .ok (.float .f64 q) w)
    (HU : Hid (∀ w, Calls Try.prog 19 #[.float .f64 q, .int .i64 1000000000] w fun e w' => e = .returned (.int .i64 (l : Nat)) ∧ w = w')) :
    Calls Try.prog 9 #[.int .i64 t, .float .f64 D] w fun e w' => e = .returned (.int .i64 n) ∧ w = w' := by
  have HK := Lib.hid hk
  clear hk
  have k1 : ¬ k < 5 := by omega
  have e1 : ¬ t < 1 := by omega
  go_enter Try.func9, Try.ntmps9
  go_wp2_with (first | (go_at_call 18; refine (KK.out _).mono ?_; rintro e w' ⟨rfl, rfl⟩) | (go_at_call 19; refine (HU.out _).mono ?_; rintro e w' ⟨rfl, rfl⟩))
  all_goals
    go_ret
    have hk := HK.out
    exact ⟨ret_int (by omega), rfl⟩
theorem refspan_hiD (t : Int) (D p q l : Nat) (n k : Int) (w : World) (ht : 1000000000 < t) (ht0 : t ≤ 9223372036854775807) (hk : n = max (1000000000 - (l : Int)) 1) (hl : l ≤ 1000000000)
    (hn : 5 ≤ k) (hn0 : k ≤ 6) (o2 : (FloatKind.f64.format.order D 4607182418800017408 == some .gt) = false) (X : Nat) (hX : floatOfInt .f64 1000000000 = X)
    (KK : Hid (∀ w, Calls Try.prog 18 #[.float .f64 D] w fun e w' => e = .returned (.int .i64 k) ∧ w = w'))
    (hm : ∀ w, (binOp .mul 22 (.float .f64 X) (.float .f64 D)).run Try.prog w = .ok (.float .f64 p) w)
    (hq : ∀ w, (binOp .quo 22 (.float .f64 p) (.float .f64 4616189618054758400)).run Try.prog w = .ok (.float .f64 q) w)
    (HU : Hid (∀ w, Calls Try.prog 19 #[.float .f64 q, .int .i64 1000000000] w fun e w' => e = .returned (.int .i64 (l : Nat)) ∧ w = w')) :
    Calls Try.prog 9 #[.int .i64 t, .float .f64 D] w fun e w' => e = .returned (.int .i64 n) ∧ w = w' := by
  have HK := Lib.hid hk
  clear hk
  have k1 : ¬ k < 5 := by omega
  have e1 : ¬ t < 1 := by omega
  go_enter Try.func9, Try.ntmps9
  go_wp2_with (first | (go_at_call 18; refine (KK.out _).mono ?_; rintro e w' ⟨rfl, rfl⟩) | (go_at_call 19; refine (HU.out _).mono ?_; rintro e w' ⟨rfl, rfl⟩))
  all_goals
    go_ret
    have hk := HK.out
    exact ⟨ret_int (by omega), rfl⟩

theorem refspan_go (t : Int) (D dw p q l : Nat) (k : Int) (w : World) (t0 : -9223372036854775808 ≤ t) (t1 : t ≤ 9223372036854775807) (hl : l ≤ 1000000000)
    (hn : spanI t D = max ((KI t : Int) - l) 1)
    (KK : Hid (∀ w, Calls Try.prog 18 #[.float .f64 D] w fun e w' => e = .returned (.int .i64 k) ∧ w = w'))
    (hm : ∀ w, (binOp .mul 22 (.float .f64 (NW (KI t))) (.float .f64 dw)).run Try.prog w = .ok (.float .f64 p) w)
    (hq : ∀ w, (binOp .quo 22 (.float .f64 p) (.float .f64 4616189618054758400)).run Try.prog w = .ok (.float .f64 q) w)
    (HU : Hid (∀ w, Calls Try.prog 19 #[.float .f64 q, .int .i64 (KI t : Nat)] w fun e w' => e = .returned (.int .i64 (l : Nat)) ∧ w = w'))
    (H : ((k < 5 ∧ 0 ≤ k ∧ dw = 0) ∨ (5 ≤ k ∧ k ≤ 6 ∧ (FloatKind.f64.format.order D 4607182418800017408 == some .gt) = true ∧ dw = 4607182418800017408) ∨ (5 ≤ k ∧ k ≤ 6 ∧ (FloatKind.f64.format.order D 4607182418800017408 == some .gt) = false ∧ dw = D))) :
    Calls Try.prog 9 #[.int .i64 t, .float .f64 D] w fun e w' => e = .returned (.int .i64 (spanI t D)) ∧ w = w' := by
  have hb := KI_bd t
  have hX : floatOfInt .f64 (KI t : Int) = NW (KI t) := floatOfInt_whole _ hb.1 (by omega)
  generalize spanI t D = n at *
  generalize NW (KI t) = X at *
  unfold KI at hn hX HU
  by_cases c1 : t < 1
  · rw [if_pos c1] at hn hX HU
    rcases H with ⟨h1, h2, rfl⟩ | ⟨h1, h2, h3, rfl⟩ | ⟨h1, h2, h3, rfl⟩
    · exact refspan_loA t D p q l n k w c1 t0 hn hl h1 h2 X hX KK hm hq HU
    · exact refspan_loC t D p q l n k w c1 t0 hn hl h1 h2 h3 X hX KK hm hq HU
    · exact refspan_loD t dw p q l n k w c1 t0 hn hl h1 h2 h3 X hX KK hm hq HU
  · rw [if_neg c1] at hn hX HU
    by_cases c2 : 1000000000 < t
    · rw [if_pos c2] at hn hX HU
      rcases H with ⟨h1, h2, rfl⟩ | ⟨h1, h2, h3, rfl⟩ | ⟨h1, h2, h3, rfl⟩
      · exact refspan_hiA t D p q l n k w c2 t1 hn hl h1 h2 X hX KK hm hq HU
      · exact refspan_hiC t D p q l n k w c2 t1 hn hl h1 h2 h3 X hX KK hm hq HU
      · exact refspan_hiD t dw p q l n k w c2 t1 hn hl h1 h2 h3 X hX KK hm hq HU
    · rw [if_neg c2] at hn hX HU
      obtain ⟨K, rfl⟩ : ∃ K : Nat, t = K := ⟨t.toNat, by omega⟩
      rw [Int.toNat_natCast] at hn hX HU
      rcases H with ⟨h1, h2, rfl⟩ | ⟨h1, h2, h3, rfl⟩ | ⟨h1, h2, h3, rfl⟩
      · exact refspan_midA K D p q l n k w (by omega) (by omega) hn hl h1 h2 X hX KK hm hq HU
      · exact refspan_midC K D p q l n k w (by omega) (by omega) hn hl h1 h2 h3 X hX KK hm hq HU
      · exact refspan_midD K dw p q l n k w (by omega) (by omega) hn hl h1 h2 h3 X hX KK hm hq HU

theorem refspan_any (t : Int) (D : Nat) (w : World) (t0 : -9223372036854775808 ≤ t) (t1 : t ≤ 9223372036854775807) (hD : D < 18446744073709551616) :
    Calls Try.prog 9 #[.int .i64 t, .float .f64 D] w fun e w' => e = .returned (.int .i64 (spanI t D)) ∧ w = w' := by
  have hb := KI_bd t
  obtain ⟨p, q, e1, e2, l, e, z⟩ := less_spec (KI t) (dN D) hb.1 hb.2 (dN_le D)
  have hf := less_le (KI t) (dN D) hb.1 hb.2 (dN_le D)
  rw [e] at hf
  have hql := NW_lt (KI t / 4 + 1) (by omega) (by omega)
  refine refspan_go t D (dN D) p q (floorV q) (kindI D) w t0 t1 (by omega) (by unfold spanI; rw [e]) (Lib.hid fun w => refKind_any D w hD)
    (fun w => run_float_arith w .mul _ .f64 _ _ _ e1) (fun w => run_float_arith w .quo _ .f64 _ _ _ e2) (Lib.hid fun w => under_any q (KI t) w (by omega) hb.2 (by omega)) ?_
  have hd : dN D = if nanB D || sgn D then 0 else if NW 1 < rung D then NW 1 else rung D := rfl
  have g1 : nanB D = false → (FloatKind.f64.format.order D 4607182418800017408 == some .gt) = (!sgn D && decide (NW 1 < rung D)) := gt_one D
  rcases kindI_cases D with ⟨h1, h2⟩ | ⟨h1, hs, h2⟩ | ⟨h1, hs, h2⟩ | ⟨h1, hs, h2⟩ | ⟨h1, hs, h2⟩ | ⟨h0, h1, hs, h2⟩ | ⟨h0, h1, hs, h2⟩
  · left
    have hn : nanB D = true := by unfold nanB; simp [h1]
    rw [h2, hd, hn]; exact ⟨by omega, by omega, rfl⟩
  · left
    rw [h2, hd, hs, if_pos (by simp)]; exact ⟨by omega, by omega, rfl⟩
  · right; left
    have hn : nanB D = false := by unfold nanB; simp; omega
    have hw : NW 1 < rung D := by rw [h1]; exact NW_lt 1 (by omega) (by omega)
    rw [h2, g1 hn, hd, hs, hn, if_neg (by simp), if_pos hw]
    exact ⟨by omega, by omega, by simp [hw], one_NW.symm⟩
  · left
    rw [h2, hd, hs, if_pos (by simp)]; exact ⟨by omega, by omega, rfl⟩
  · left
    have hn : nanB D = false := by unfold nanB; rw [h1]; simp
    rw [h2, hd, hs, hn, if_neg (by simp), h1, if_neg (by omega)]; exact ⟨by omega, by omega, rfl⟩
  · left
    rw [h2, hd, hs, if_pos (by simp)]; exact ⟨by omega, by omega, rfl⟩
  · right
    have hn : nanB D = false := by unfold nanB; simp; omega
    have hr : rung D = D := by
      unfold sgn at hs; unfold rung
      have : D / 9223372036854775808 % 2 = 0 ∨ D / 9223372036854775808 % 2 = 1 := by omega
      rcases this with e | e
      · omega
      · rw [e] at hs; exact absurd hs (by decide)
    rw [h2, g1 hn, hd, hs, hn, if_neg (by simp)]
    by_cases hw : NW 1 < rung D
    · left
      rw [if_pos hw]
      exact ⟨by omega, by omega, by simp [hw], one_NW.symm⟩
    · right
      rw [if_neg hw]
      exact ⟨by omega, by omega, by simp [hw], hr⟩
end Go.Proofs.Ytbafeffmcfldoab
