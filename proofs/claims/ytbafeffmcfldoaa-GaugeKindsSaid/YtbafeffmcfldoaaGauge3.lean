/- gauge.Order and the document's Order are one order of all float64 words. Each theorem states its conditions. -/
import Derived.Test.YtbafeffmcfldoaaGauge2
namespace Go.Proofs.Ytbafeffmcfldoaa
open Go.RowKit
set_option linter.unusedVariables false

def cmp3 (a b : Int) : Int := if a < b then -1 else if b < a then 1 else 0
def rankI (x : Nat) : Int := if infR < rung x then -9223372036854775808 else if sgn x then -(rung x : Int) - 1 else rung x
def ordI (x y : Nat) : Int := cmp3 (rankI x) (rankI y)
def cmpF (x y : Nat) : Int := if nanB x then (if nanB y then 0 else -1) else if nanB y then 1 else cmp3 (key x) (key y)
theorem cmp3_self (a : Int) : cmp3 a a = 0 := by unfold cmp3; rw [if_neg (by omega), if_neg (by omega)]
theorem cmp3_neg (a b : Int) : cmp3 b a = -cmp3 a b := by unfold cmp3; split <;> split <;> omega
theorem cmp3_bd (a b : Int) : -1 ≤ cmp3 a b ∧ cmp3 a b ≤ 1 := by unfold cmp3; split <;> (try split) <;> omega

set_option maxHeartbeats 8000000 in
theorem order_math (x y : Nat) : (if cmp3 (kindI x) (kindI y) ≠ 0 then cmp3 (kindI x) (kindI y) else cmpF x y) = ordI x y := by
  have hx := rung_lt x
  have hy := rung_lt y
  have cx := kindI_cases x
  have cy := kindI_cases y
  unfold ordI rankI cmpF nanB key
  generalize kindI x = kx at *
  generalize kindI y = ky at *
  generalize rung x = rx at *
  generalize rung y = ry at *
  generalize sgn x = sx at *
  generalize sgn y = sy at *
  unfold infR at *
  rcases cx with ⟨h1, rfl⟩ | ⟨h1, rfl, rfl⟩ | ⟨h1, rfl, rfl⟩ | ⟨h1, rfl, rfl⟩ | ⟨h1, rfl, rfl⟩ | ⟨h1, h2, rfl, rfl⟩ | ⟨h1, h2, rfl, rfl⟩ <;>
  rcases cy with ⟨g1, rfl⟩ | ⟨g1, rfl, rfl⟩ | ⟨g1, rfl, rfl⟩ | ⟨g1, rfl, rfl⟩ | ⟨g1, rfl, rfl⟩ | ⟨g1, g2, rfl, rfl⟩ | ⟨g1, g2, rfl, rfl⟩ <;>
  simp only [decide_eq_true_eq, Bool.false_eq_true, if_true, if_false] <;>
  (try rw [if_pos h1]) <;> (try rw [if_neg (show ¬ 9218868437227405312 < rx by omega)]) <;> (try rw [if_pos g1]) <;> (try rw [if_neg (show ¬ 9218868437227405312 < ry by omega)]) <;>
  unfold cmp3 <;> (repeat' split) <;> omega

theorem isNaNint (a : Int) (w : World) : Calls Try.prog 67 #[.int .i64 a] w fun e w' => e = .returned (.bool false) ∧ w = w' := by
  go_enter Try.func67, Try.ntmps67
  go_wp2
  go_ret
  exact ⟨rfl, rfl⟩
theorem cmpInt_any (a b : Int) (w : World) : Calls Try.prog 57 #[.int .i64 a, .int .i64 b] w fun e w' => e = .returned (.int .i64 (cmp3 a b)) ∧ w = w' := by
  by_cases h1 : a < b
  · have H : Hid (cmp3 a b = -1) := Lib.hid (by unfold cmp3; rw [if_pos h1])
    go_enter Try.func57, Try.ntmps57
    go_wp2_with (go_at_call 67; refine (isNaNint _ _).mono ?_; rintro e w' ⟨rfl, rfl⟩)
    go_ret
    exact ⟨ret_int H.out.symm, rfl⟩
  · by_cases h2 : b < a
    · have H : Hid (cmp3 a b = 1) := Lib.hid (by unfold cmp3; rw [if_neg h1, if_pos h2])
      go_enter Try.func57, Try.ntmps57
      go_wp2_with (go_at_call 67; refine (isNaNint _ _).mono ?_; rintro e w' ⟨rfl, rfl⟩)
      go_ret
      exact ⟨ret_int H.out.symm, rfl⟩
    · have H : Hid (cmp3 a b = 0) := Lib.hid (by unfold cmp3; rw [if_neg h1, if_neg h2])
      go_enter Try.func57, Try.ntmps57
      go_wp2_with (go_at_call 67; refine (isNaNint _ _).mono ?_; rintro e w' ⟨rfl, rfl⟩)
      go_ret
      exact ⟨ret_int H.out.symm, rfl⟩

theorem isNaNf (x : Nat) (w : World) : Calls Try.prog 68 #[.float .f64 x] w fun e w' => e = .returned (.bool (nanB x)) ∧ w = w' := by
  have H := Lib.hid (nanB_eq x)
  go_enter Try.func68, Try.ntmps68
  go_wp2
  go_ret
  exact ⟨ret_bool H.out, rfl⟩
theorem cmp_facts (x y : Nat) (hx : nanB x = false) (hy : nanB y = false) : (FloatKind.f64.format.order x y == some .lt) = decide (key x < key y) ∧ (FloatKind.f64.format.order x y == some .gt) = decide (key y < key x) := by
  unfold nanB at hx hy
  have hx' : rung x ≤ infR := by simpa using hx
  have hy' : rung y ≤ infR := by simpa using hy
  rw [fo_key x y hx' hy']
  rcases Int.lt_trichotomy (key x) (key y) with h | h | h
  · rw [cmp_lt h]; simp [h]; omega
  · rw [cmp_eq h]; simp; omega
  · rw [cmp_gt h]; simp [h]; omega
set_option maxHeartbeats 1000000 in
theorem cmpF_any (x y : Nat) (w : World) : Calls Try.prog 58 #[.float .f64 x, .float .f64 y] w fun e w' => e = .returned (.int .i64 (cmpF x y)) ∧ w = w' := by
  have HX := Lib.hid fun w => isNaNf x w
  have HY := Lib.hid fun w => isNaNf y w
  have HF := Lib.hid (cmp_facts x y)
  have HC : Hid (cmpF x y = if nanB x then (if nanB y then 0 else -1) else if nanB y then 1 else if decide (key x < key y) then -1 else if decide (key y < key x) then 1 else 0) := Lib.hid (by unfold cmpF cmp3; simp only [decide_eq_true_eq])
  have HL : Hid (decide (key x < key y) = true → decide (key y < key x) = false) := Lib.hid (by simp only [decide_eq_true_eq, decide_eq_false_iff_not]; omega)
  generalize decide (key x < key y) = l at *
  generalize decide (key y < key x) = g at *
  generalize cmpF x y = c at *
  generalize nanB x = a at *
  generalize nanB y = b at *
  cases a <;> cases b
  · obtain ⟨t1, t2⟩ := HF.out rfl rfl
    clear HF
    cases l
    · clear HL
      cases g <;> obtain rfl := HC.out
      all_goals
        clear HC
        go_enter Try.func58, Try.ntmps58
        go_wp2_with (first | (go_at_call 68; (with_reducible refine (HX.out _).mono ?_); rintro e w' ⟨rfl, rfl⟩) | (go_at_call 68; (with_reducible refine (HY.out _).mono ?_); rintro e w' ⟨rfl, rfl⟩))
        go_ret
        exact ⟨rfl, rfl⟩
    · obtain rfl := HL.out rfl
      obtain rfl := HC.out
      clear HL HC
      go_enter Try.func58, Try.ntmps58
      go_wp2_with (first | (go_at_call 68; (with_reducible refine (HX.out _).mono ?_); rintro e w' ⟨rfl, rfl⟩) | (go_at_call 68; (with_reducible refine (HY.out _).mono ?_); rintro e w' ⟨rfl, rfl⟩))
      go_ret
      exact ⟨rfl, rfl⟩
  all_goals
    obtain rfl := HC.out
    clear HF HL HC
    go_enter Try.func58, Try.ntmps58
    go_wp2_with (first | (go_at_call 68; (with_reducible refine (HX.out _).mono ?_); rintro e w' ⟨rfl, rfl⟩) | (go_at_call 68; (with_reducible refine (HY.out _).mono ?_); rintro e w' ⟨rfl, rfl⟩))
    go_ret
    exact ⟨rfl, rfl⟩

theorem order_any (x y : Nat) (w : World) (hx : x < 18446744073709551616) (hy : y < 18446744073709551616) : Calls Try.prog 37 #[.float .f64 x, .float .f64 y] w fun e w' => e = .returned (.int .i64 (ordI x y)) ∧ w = w' := by
  have HX := Lib.hid fun w => kind_any x w hx
  have HY := Lib.hid fun w => kind_any y w hy
  have HI := Lib.hid fun w => cmpInt_any (kindI x) (kindI y) w
  have HF := Lib.hid fun w => cmpF_any x y w
  have HM := Lib.hid (order_math x y)
  generalize cmp3 (kindI x) (kindI y) = c at *
  generalize cmpF x y = d at *
  generalize ordI x y = o at *
  generalize kindI x = kx at *
  generalize kindI y = ky at *
  clear hx hy
  by_cases h : c = 0
  · have t : (c != 0) = false := by simp [h]
    have H := Lib.hid (HM.out.symm.trans (if_neg (by simp [h])))
    clear HM h
    go_enter Try.func37, Try.ntmps37
    go_wp2_with (first | (go_at_call 35; (with_reducible refine (HX.out _).mono ?_); rintro e w' ⟨rfl, rfl⟩) | (go_at_call 35; (with_reducible refine (HY.out _).mono ?_); rintro e w' ⟨rfl, rfl⟩) | (go_at_call 57; refine (HI.out _).mono ?_; rintro e w' ⟨rfl, rfl⟩) | (go_at_call 58; refine (HF.out _).mono ?_; rintro e w' ⟨rfl, rfl⟩))
    go_ret
    exact ⟨ret_int H.out.symm, rfl⟩
  · have t : (c != 0) = true := by simp [h]
    have H := Lib.hid (HM.out.symm.trans (if_pos h))
    clear HM h
    go_enter Try.func37, Try.ntmps37
    go_wp2_with (first | (go_at_call 35; (with_reducible refine (HX.out _).mono ?_); rintro e w' ⟨rfl, rfl⟩) | (go_at_call 35; (with_reducible refine (HY.out _).mono ?_); rintro e w' ⟨rfl, rfl⟩) | (go_at_call 57; refine (HI.out _).mono ?_; rintro e w' ⟨rfl, rfl⟩))
    go_ret
    exact ⟨ret_int H.out.symm, rfl⟩

theorem ret_int64 {a b : Int} (h : a = b) : Ending.returned (.int .i64 a) = .returned (.int .i64 b) := by rw [h]
theorem rank_any (x : Nat) (w : World) (hx : x < 18446744073709551616) : Calls Try.prog 59 #[.float .f64 x] w fun e w' => e = .returned (.int .i64 (rankI x)) ∧ w = w' := by
  have hb := run_bits
  have HK := Lib.hid fun w => refKind_any x w hx
  have HS := Lib.hid (sgn_shr x hx)
  have HR := Lib.hid (rung_and x hx)
  have hl := rung_lt x
  have hc := kindI_cases x
  have HQ : Hid (rankI x = if infR < rung x then -9223372036854775808 else if sgn x then -(rung x : Int) - 1 else rung x) := Lib.hid rfl
  have HZ : sgn x = false → x = rung x := by
    unfold sgn rung; intro h
    have : x / 9223372036854775808 = 0 ∨ x / 9223372036854775808 = 1 := by omega
    rcases this with e | e
    · omega
    · rw [e] at h; simp at h
  generalize rankI x = q at *
  by_cases h0 : infR < rung x
  · have hk : kindI x = 0 := by rcases hc with h | h | h | h | h | h | h <;> first | exact h.2 | (unfold infR at *; omega)
    have H := Lib.hid (HQ.out.trans (if_pos h0))
    rw [hk] at HK
    clear HQ HZ hc h0 hk hl
    go_enter Try.func59, Try.ntmps59
    go_wp2_with (go_at_call 36; refine (HK.out _).mono ?_; rintro e w' ⟨rfl, rfl⟩)
    go_ret
    exact ⟨ret_int64 H.out.symm, rfl⟩
  · have hk : kindI x ≠ 0 := by rcases hc with h | h | h | h | h | h | h <;> (unfold infR at *; omega)
    have hk' : (kindI x == 0) = false := by simp [hk]
    have H1 := Lib.hid (HQ.out.trans (if_neg h0))
    have H2 := Lib.hid HZ
    generalize kindI x = k at *
    clear HQ HZ hc h0 hk
    cases hs : sgn x
    · rw [hs] at H1 HS H2
      have hxe := Lib.hid (H2.out rfl)
      have hx63 : x < 9223372036854775808 := by have := H2.out rfl; omega
      clear HR H2 hs hl hx
      go_enter Try.func59, Try.ntmps59
      have hs' := HS.out
      clear HS
      go_wp2_with (go_at_call 36; refine (HK.out _).mono ?_; rintro e w' ⟨rfl, rfl⟩)
      go_ret
      exact ⟨ret_int64 (by rw [H1.out, ← hxe.out]; simp), rfl⟩
    · rw [hs] at H1 HS
      have hs' := HS.out
      have hr := HR.out
      clear HR HS H2 hs hx
      generalize rung x = r at *
      go_enter Try.func59, Try.ntmps59
      go_wp2_with (go_at_call 36; refine (HK.out _).mono ?_; rintro e w' ⟨rfl, rfl⟩)
      go_ret
      exact ⟨ret_int64 (by rw [H1.out]; simp), rfl⟩

theorem refOrder_any (x y : Nat) (w : World) (hx : x < 18446744073709551616) (hy : y < 18446744073709551616) : Calls Try.prog 38 #[.float .f64 x, .float .f64 y] w fun e w' => e = .returned (.int .i64 (ordI x y)) ∧ w = w' := by
  have HX := Lib.hid fun w => rank_any x w hx
  have HY := Lib.hid fun w => rank_any y w hy
  have HO : Hid (ordI x y = cmp3 (rankI x) (rankI y)) := Lib.hid rfl
  generalize ordI x y = o at *
  generalize rankI x = a at *
  generalize rankI y = b at *
  clear hx hy
  by_cases h1 : a < b
  · have H := Lib.hid (HO.out.trans (by unfold cmp3; rw [if_pos h1]) : o = -1)
    go_enter Try.func38, Try.ntmps38
    go_wp2_with (first | (go_at_call 59; (with_reducible refine (HX.out _).mono ?_); rintro e w' ⟨rfl, rfl⟩) | (go_at_call 59; (with_reducible refine (HY.out _).mono ?_); rintro e w' ⟨rfl, rfl⟩))
    go_ret
    exact ⟨ret_int64 H.out.symm, rfl⟩
  · by_cases h2 : b < a
    · have H := Lib.hid (HO.out.trans (by unfold cmp3; rw [if_neg h1, if_pos h2]) : o = 1)
      go_enter Try.func38, Try.ntmps38
      go_wp2_with (first | (go_at_call 59; (with_reducible refine (HX.out _).mono ?_); rintro e w' ⟨rfl, rfl⟩) | (go_at_call 59; (with_reducible refine (HY.out _).mono ?_); rintro e w' ⟨rfl, rfl⟩))
      go_ret
      exact ⟨ret_int64 H.out.symm, rfl⟩
    · have H := Lib.hid (HO.out.trans (by unfold cmp3; rw [if_neg h1, if_neg h2]) : o = 0)
      go_enter Try.func38, Try.ntmps38
      go_wp2_with (first | (go_at_call 59; (with_reducible refine (HX.out _).mono ?_); rintro e w' ⟨rfl, rfl⟩) | (go_at_call 59; (with_reducible refine (HY.out _).mono ?_); rintro e w' ⟨rfl, rfl⟩))
      go_ret
      exact ⟨ret_int64 H.out.symm, rfl⟩
end Go.Proofs.Ytbafeffmcfldoaa
