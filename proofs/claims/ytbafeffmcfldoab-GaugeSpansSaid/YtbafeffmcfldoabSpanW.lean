/- gauge.Span walked, by its branches. Each theorem states its conditions. -/
import Derived.Test.YtbafeffmcfldoabSpanN
import Derived.Test.YtbafeffmcfldoabAwakeG
namespace Go.Proofs.Ytbafeffmcfldoab
open Go.RowKit
set_option linter.unusedVariables false

theorem span_loA (t : Int) (D p q z l : Nat) (n : Int) (w : World) (ht : t < 1) (ht0 : -9223372036854775808 ≤ t) (hk : n = max (1 - (l : Int)) 1) (hl : l ≤ 1000000000)
    (hn : nanB D = true) (X : Nat) (hX : floatOfInt .f64 1 = X)
    (hm : ∀ w, (binOp .mul 22 (.float .f64 X) (.float .f64 0)).run Try.prog w = .ok (.float .f64 p) w)
    (hq : ∀ w, (binOp .quo 22 (.float .f64 p) (.float .f64 4616189618054758400)).run Try.prog w = .ok (.float .f64 q) w)
    (hc : ∀ w, (callFunc 26 #[.float .f64 q]).run Try.prog w = .ok (.value (.float .f64 z)) w)
    (hv : ∀ w, (convert 22 3 (.float .f64 z)).run Try.prog w = .ok (.int .i64 l) w) :
    Calls Try.prog 7 #[.int .i64 t, .float .f64 D] w fun e w' => e = .returned (.int .i64 n) ∧ w = w' := by
  have HN := Lib.hid fun w => isNaN_any D w
  rw [hn] at HN
  have HK := Lib.hid hk
  clear hn hk
  go_enter Try.func7, Try.ntmps7
  go_wp2_with (first | (go_at_call 15; refine (HN.out _).mono ?_; rintro e w' ⟨rfl, rfl⟩) | go_in)
  all_goals
    go_ret
    have hk := HK.out
    exact ⟨ret_int (by omega), rfl⟩
theorem span_loB (t : Int) (D p q z l : Nat) (n : Int) (w : World) (ht : t < 1) (ht0 : -9223372036854775808 ≤ t) (hk : n = max (1 - (l : Int)) 1) (hl : l ≤ 1000000000)
    (hn : nanB D = false) (o1 : (FloatKind.f64.format.order D 0 == some .lt) = true) (X : Nat) (hX : floatOfInt .f64 1 = X)
    (hm : ∀ w, (binOp .mul 22 (.float .f64 X) (.float .f64 0)).run Try.prog w = .ok (.float .f64 p) w)
    (hq : ∀ w, (binOp .quo 22 (.float .f64 p) (.float .f64 4616189618054758400)).run Try.prog w = .ok (.float .f64 q) w)
    (hc : ∀ w, (callFunc 26 #[.float .f64 q]).run Try.prog w = .ok (.value (.float .f64 z)) w)
    (hv : ∀ w, (convert 22 3 (.float .f64 z)).run Try.prog w = .ok (.int .i64 l) w) :
    Calls Try.prog 7 #[.int .i64 t, .float .f64 D] w fun e w' => e = .returned (.int .i64 n) ∧ w = w' := by
  have HN := Lib.hid fun w => isNaN_any D w
  rw [hn] at HN
  have HK := Lib.hid hk
  clear hn hk
  go_enter Try.func7, Try.ntmps7
  go_wp2_with (first | (go_at_call 15; refine (HN.out _).mono ?_; rintro e w' ⟨rfl, rfl⟩) | go_in)
  all_goals
    go_ret
    have hk := HK.out
    exact ⟨ret_int (by omega), rfl⟩
theorem span_loC (t : Int) (D p q z l : Nat) (n : Int) (w : World) (ht : t < 1) (ht0 : -9223372036854775808 ≤ t) (hk : n = max (1 - (l : Int)) 1) (hl : l ≤ 1000000000)
    (hn : nanB D = false) (o1 : (FloatKind.f64.format.order D 0 == some .lt) = false) (o2 : (FloatKind.f64.format.order D 4607182418800017408 == some .gt) = true) (X : Nat) (hX : floatOfInt .f64 1 = X)
    (hm : ∀ w, (binOp .mul 22 (.float .f64 X) (.float .f64 4607182418800017408)).run Try.prog w = .ok (.float .f64 p) w)
    (hq : ∀ w, (binOp .quo 22 (.float .f64 p) (.float .f64 4616189618054758400)).run Try.prog w = .ok (.float .f64 q) w)
    (hc : ∀ w, (callFunc 26 #[.float .f64 q]).run Try.prog w = .ok (.value (.float .f64 z)) w)
    (hv : ∀ w, (convert 22 3 (.float .f64 z)).run Try.prog w = .ok (.int .i64 l) w) :
    Calls Try.prog 7 #[.int .i64 t, .float .f64 D] w fun e w' => e = .returned (.int .i64 n) ∧ w = w' := by
  have HN := Lib.hid fun w => isNaN_any D w
  rw [hn] at HN
  have HK := Lib.hid hk
  clear hn hk
  go_enter Try.func7, Try.ntmps7
  go_wp2_with (first | (go_at_call 15; refine (HN.out _).mono ?_; rintro e w' ⟨rfl, rfl⟩) | go_in)
  all_goals
    go_ret
    have hk := HK.out
    exact ⟨ret_int (by omega), rfl⟩
theorem span_loD (t : Int) (D p q z l : Nat) (n : Int) (w : World) (ht : t < 1) (ht0 : -9223372036854775808 ≤ t) (hk : n = max (1 - (l : Int)) 1) (hl : l ≤ 1000000000)
    (hn : nanB D = false) (o1 : (FloatKind.f64.format.order D 0 == some .lt) = false) (o2 : (FloatKind.f64.format.order D 4607182418800017408 == some .gt) = false) (X : Nat) (hX : floatOfInt .f64 1 = X)
    (hm : ∀ w, (binOp .mul 22 (.float .f64 X) (.float .f64 D)).run Try.prog w = .ok (.float .f64 p) w)
    (hq : ∀ w, (binOp .quo 22 (.float .f64 p) (.float .f64 4616189618054758400)).run Try.prog w = .ok (.float .f64 q) w)
    (hc : ∀ w, (callFunc 26 #[.float .f64 q]).run Try.prog w = .ok (.value (.float .f64 z)) w)
    (hv : ∀ w, (convert 22 3 (.float .f64 z)).run Try.prog w = .ok (.int .i64 l) w) :
    Calls Try.prog 7 #[.int .i64 t, .float .f64 D] w fun e w' => e = .returned (.int .i64 n) ∧ w = w' := by
  have HN := Lib.hid fun w => isNaN_any D w
  rw [hn] at HN
  have HK := Lib.hid hk
  clear hn hk
  go_enter Try.func7, Try.ntmps7
  go_wp2_with (first | (go_at_call 15; refine (HN.out _).mono ?_; rintro e w' ⟨rfl, rfl⟩) | go_in)
  all_goals
    go_ret
    have hk := HK.out
    exact ⟨ret_int (by omega), rfl⟩
theorem span_midA (K : Nat) (D p q z l : Nat) (n : Int) (w : World) (ht : 1 ≤ K) (ht0 : K ≤ 1000000000) (hk : n = max ((K : Int) - l) 1) (hl : l ≤ 1000000000)
    (hn : nanB D = true) (X : Nat) (hX : floatOfInt .f64 (K : Int) = X)
    (hm : ∀ w, (binOp .mul 22 (.float .f64 X) (.float .f64 0)).run Try.prog w = .ok (.float .f64 p) w)
    (hq : ∀ w, (binOp .quo 22 (.float .f64 p) (.float .f64 4616189618054758400)).run Try.prog w = .ok (.float .f64 q) w)
    (hc : ∀ w, (callFunc 26 #[.float .f64 q]).run Try.prog w = .ok (.value (.float .f64 z)) w)
    (hv : ∀ w, (convert 22 3 (.float .f64 z)).run Try.prog w = .ok (.int .i64 l) w) :
    Calls Try.prog 7 #[.int .i64 K, .float .f64 D] w fun e w' => e = .returned (.int .i64 n) ∧ w = w' := by
  have HN := Lib.hid fun w => isNaN_any D w
  rw [hn] at HN
  have HK := Lib.hid hk
  clear hn hk
  have e1 : ¬ (K : Int) < 1 := by omega
  have e2 : (K : Int) ≤ 1000000000 := by omega
  go_enter Try.func7, Try.ntmps7
  go_wp2_with (first | (go_at_call 15; refine (HN.out _).mono ?_; rintro e w' ⟨rfl, rfl⟩) | go_in)
  all_goals
    go_ret
    have hk := HK.out
    exact ⟨ret_int (by omega), rfl⟩
theorem span_midB (K : Nat) (D p q z l : Nat) (n : Int) (w : World) (ht : 1 ≤ K) (ht0 : K ≤ 1000000000) (hk : n = max ((K : Int) - l) 1) (hl : l ≤ 1000000000)
    (hn : nanB D = false) (o1 : (FloatKind.f64.format.order D 0 == some .lt) = true) (X : Nat) (hX : floatOfInt .f64 (K : Int) = X)
    (hm : ∀ w, (binOp .mul 22 (.float .f64 X) (.float .f64 0)).run Try.prog w = .ok (.float .f64 p) w)
    (hq : ∀ w, (binOp .quo 22 (.float .f64 p) (.float .f64 4616189618054758400)).run Try.prog w = .ok (.float .f64 q) w)
    (hc : ∀ w, (callFunc 26 #[.float .f64 q]).run Try.prog w = .ok (.value (.float .f64 z)) w)
    (hv : ∀ w, (convert 22 3 (.float .f64 z)).run Try.prog w = .ok (.int .i64 l) w) :
    Calls Try.prog 7 #[.int .i64 K, .float .f64 D] w fun e w' => e = .returned (.int .i64 n) ∧ w = w' := by
  have HN := Lib.hid fun w => isNaN_any D w
  rw [hn] at HN
  have HK := Lib.hid hk
  clear hn hk
  have e1 : ¬ (K : Int) < 1 := by omega
  have e2 : (K : Int) ≤ 1000000000 := by omega
  go_enter Try.func7, Try.ntmps7
  go_wp2_with (first | (go_at_call 15; refine (HN.out _).mono ?_; rintro e w' ⟨rfl, rfl⟩) | go_in)
  all_goals
    go_ret
    have hk := HK.out
    exact ⟨ret_int (by omega), rfl⟩
theorem span_midC (K : Nat) (D p q z l : Nat) (n : Int) (w : World) (ht : 1 ≤ K) (ht0 : K ≤ 1000000000) (hk : n = max ((K : Int) - l) 1) (hl : l ≤ 1000000000)
    (hn : nanB D = false) (o1 : (FloatKind.f64.format.order D 0 == some .lt) = false) (o2 : (FloatKind.f64.format.order D 4607182418800017408 == some .gt) = true) (X : Nat) (hX : floatOfInt .f64 (K : Int) = X)
    (hm : ∀ w, (binOp .mul 22 (.float .f64 X) (.float .f64 4607182418800017408)).run Try.prog w = .ok (.float .f64 p) w)
    (hq : ∀ w, (binOp .quo 22 (.float .f64 p) (.float .f64 4616189618054758400)).run Try.prog w = .ok (.float .f64 q) w)
    (hc : ∀ w, (callFunc 26 #[.float .f64 q]).run Try.prog w = .ok (.value (.float .f64 z)) w)
    (hv : ∀ w, (convert 22 3 (.float .f64 z)).run Try.prog w = .ok (.int .i64 l) w) :
    Calls Try.prog 7 #[.int .i64 K, .float .f64 D] w fun e w' => e = .returned (.int .i64 n) ∧ w = w' := by
  have HN := Lib.hid fun w => isNaN_any D w
  rw [hn] at HN
  have HK := Lib.hid hk
  clear hn hk
  have e1 : ¬ (K : Int) < 1 := by omega
  have e2 : (K : Int) ≤ 1000000000 := by omega
  go_enter Try.func7, Try.ntmps7
  go_wp2_with (first | (go_at_call 15; refine (HN.out _).mono ?_; rintro e w' ⟨rfl, rfl⟩) | go_in)
  all_goals
    go_ret
    have hk := HK.out
    exact ⟨ret_int (by omega), rfl⟩
theorem span_midD (K : Nat) (D p q z l : Nat) (n : Int) (w : World) (ht : 1 ≤ K) (ht0 : K ≤ 1000000000) (hk : n = max ((K : Int) - l) 1) (hl : l ≤ 1000000000)
    (hn : nanB D = false) (o1 : (FloatKind.f64.format.order D 0 == some .lt) = false) (o2 : (FloatKind.f64.format.order D 4607182418800017408 == some .gt) = false) (X : Nat) (hX : floatOfInt .f64 (K : Int) = X)
    (hm : ∀ w, (binOp .mul 22 (.float .f64 X) (.float .f64 D)).run Try.prog w = .ok (.float .f64 p) w)
    (hq : ∀ w, (binOp .quo 22 (.float .f64 p) (.float .f64 4616189618054758400)).run Try.prog w = .ok (.float .f64 q) w)
    (hc : ∀ w, (callFunc 26 #[.float .f64 q]).run Try.prog w = .ok (.value (.float .f64 z)) w)
    (hv : ∀ w, (convert 22 3 (.float .f64 z)).run Try.prog w = .ok (.int .i64 l) w) :
    Calls Try.prog 7 #[.int .i64 K, .float .f64 D] w fun e w' => e = .returned (.int .i64 n) ∧ w = w' := by
  have HN := Lib.hid fun w => isNaN_any D w
  rw [hn] at HN
  have HK := Lib.hid hk
  clear hn hk
  have e1 : ¬ (K : Int) < 1 := by omega
  have e2 : (K : Int) ≤ 1000000000 := by omega
  go_enter Try.func7, Try.ntmps7
  go_wp2_with (first | (go_at_call 15; refine (HN.out _).mono ?_; rintro e w' ⟨rfl, rfl⟩) | go_in)
  all_goals
    go_ret
    have hk := HK.out
    exact ⟨ret_int (by omega), rfl⟩
theorem span_hiA (t : Int) (D p q z l : Nat) (n : Int) (w : World) (ht : 1000000000 < t) (ht0 : t ≤ 9223372036854775807) (hk : n = max (1000000000 - (l : Int)) 1) (hl : l ≤ 1000000000)
    (hn : nanB D = true) (X : Nat) (hX : floatOfInt .f64 1000000000 = X)
    (hm : ∀ w, (binOp .mul 22 (.float .f64 X) (.float .f64 0)).run Try.prog w = .ok (.float .f64 p) w)
    (hq : ∀ w, (binOp .quo 22 (.float .f64 p) (.float .f64 4616189618054758400)).run Try.prog w = .ok (.float .f64 q) w)
    (hc : ∀ w, (callFunc 26 #[.float .f64 q]).run Try.prog w = .ok (.value (.float .f64 z)) w)
    (hv : ∀ w, (convert 22 3 (.float .f64 z)).run Try.prog w = .ok (.int .i64 l) w) :
    Calls Try.prog 7 #[.int .i64 t, .float .f64 D] w fun e w' => e = .returned (.int .i64 n) ∧ w = w' := by
  have HN := Lib.hid fun w => isNaN_any D w
  rw [hn] at HN
  have HK := Lib.hid hk
  clear hn hk
  have e1 : ¬ t < 1 := by omega
  go_enter Try.func7, Try.ntmps7
  go_wp2_with (first | (go_at_call 15; refine (HN.out _).mono ?_; rintro e w' ⟨rfl, rfl⟩) | go_in)
  all_goals
    go_ret
    have hk := HK.out
    exact ⟨ret_int (by omega), rfl⟩
theorem span_hiB (t : Int) (D p q z l : Nat) (n : Int) (w : World) (ht : 1000000000 < t) (ht0 : t ≤ 9223372036854775807) (hk : n = max (1000000000 - (l : Int)) 1) (hl : l ≤ 1000000000)
    (hn : nanB D = false) (o1 : (FloatKind.f64.format.order D 0 == some .lt) = true) (X : Nat) (hX : floatOfInt .f64 1000000000 = X)
    (hm : ∀ w, (binOp .mul 22 (.float .f64 X) (.float .f64 0)).run Try.prog w = .ok (.float .f64 p) w)
    (hq : ∀ w, (binOp .quo 22 (.float .f64 p) (.float .f64 4616189618054758400)).run Try.prog w = .ok (.float .f64 q) w)
    (hc : ∀ w, (callFunc 26 #[.float .f64 q]).run Try.prog w = .ok (.value (.float .f64 z)) w)
    (hv : ∀ w, (convert 22 3 (.float .f64 z)).run Try.prog w = .ok (.int .i64 l) w) :
    Calls Try.prog 7 #[.int .i64 t, .float .f64 D] w fun e w' => e = .returned (.int .i64 n) ∧ w = w' := by
  have HN := Lib.hid fun w => isNaN_any D w
  rw [hn] at HN
  have HK := Lib.hid hk
  clear hn hk
  have e1 : ¬ t < 1 := by omega
  go_enter Try.func7, Try.ntmps7
  go_wp2_with (first | (go_at_call 15; refine (HN.out _).mono ?_; rintro e w' ⟨rfl, rfl⟩) | go_in)
  all_goals
    go_ret
    have hk := HK.out
    exact ⟨ret_int (by omega), rfl⟩
theorem span_hiC (t : Int) (D p q z l : Nat) (n : Int) (w : World) (ht : 1000000000 < t) (ht0 : t ≤ 9223372036854775807) (hk : n = max (1000000000 - (l : Int)) 1) (hl : l ≤ 1000000000)
    (hn : nanB D = false) (o1 : (FloatKind.f64.format.order D 0 == some .lt) = false) (o2 : (FloatKind.f64.format.order D 4607182418800017408 == some .gt) = true) (X : Nat) (hX : floatOfInt .f64 1000000000 = X)
    (hm : ∀ w, (binOp .mul 22 (.float .f64 X) (.float .f64 4607182418800017408)).run Try.prog w = .ok (.float .f64 p) w)
    (hq : ∀ w, (binOp .quo 22 (.float .f64 p) (.float .f64 4616189618054758400)).run Try.prog w = .ok (.float .f64 q) w)
    (hc : ∀ w, (callFunc 26 #[.float .f64 q]).run Try.prog w = .ok (.value (.float .f64 z)) w)
    (hv : ∀ w, (convert 22 3 (.float .f64 z)).run Try.prog w = .ok (.int .i64 l) w) :
    Calls Try.prog 7 #[.int .i64 t, .float .f64 D] w fun e w' => e = .returned (.int .i64 n) ∧ w = w' := by
  have HN := Lib.hid fun w => isNaN_any D w
  rw [hn] at HN
  have HK := Lib.hid hk
  clear hn hk
  have e1 : ¬ t < 1 := by omega
  go_enter Try.func7, Try.ntmps7
  go_wp2_with (first | (go_at_call 15; refine (HN.out _).mono ?_; rintro e w' ⟨rfl, rfl⟩) | go_in)
  all_goals
    go_ret
    have hk := HK.out
    exact ⟨ret_int (by omega), rfl⟩
theorem span_hiD (t : Int) (D p q z l : Nat) (n : Int) (w : World) (ht : 1000000000 < t) (ht0 : t ≤ 9223372036854775807) (hk : n = max (1000000000 - (l : Int)) 1) (hl : l ≤ 1000000000)
    (hn : nanB D = false) (o1 : (FloatKind.f64.format.order D 0 == some .lt) = false) (o2 : (FloatKind.f64.format.order D 4607182418800017408 == some .gt) = false) (X : Nat) (hX : floatOfInt .f64 1000000000 = X)
    (hm : ∀ w, (binOp .mul 22 (.float .f64 X) (.float .f64 D)).run Try.prog w = .ok (.float .f64 p) w)
    (hq : ∀ w, (binOp .quo 22 (.float .f64 p) (.float .f64 4616189618054758400)).run Try.prog w = .ok (.float .f64 q) w)
    (hc : ∀ w, (callFunc 26 #[.float .f64 q]).run Try.prog w = .ok (.value (.float .f64 z)) w)
    (hv : ∀ w, (convert 22 3 (.float .f64 z)).run Try.prog w = .ok (.int .i64 l) w) :
    Calls Try.prog 7 #[.int .i64 t, .float .f64 D] w fun e w' => e = .returned (.int .i64 n) ∧ w = w' := by
  have HN := Lib.hid fun w => isNaN_any D w
  rw [hn] at HN
  have HK := Lib.hid hk
  clear hn hk
  have e1 : ¬ t < 1 := by omega
  go_enter Try.func7, Try.ntmps7
  go_wp2_with (first | (go_at_call 15; refine (HN.out _).mono ?_; rintro e w' ⟨rfl, rfl⟩) | go_in)
  all_goals
    go_ret
    have hk := HK.out
    exact ⟨ret_int (by omega), rfl⟩
end Go.Proofs.Ytbafeffmcfldoab
