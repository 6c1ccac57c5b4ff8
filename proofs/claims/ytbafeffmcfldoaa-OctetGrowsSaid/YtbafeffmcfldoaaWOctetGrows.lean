/- The walk of OctetGrows: for every input the law returns true, and nothing that was there is written. No condition. -/
import Derived.Test.YtbafeffmcfldoaaAwake
import Derived.Test.YtbafeffmcfldoaaPlus
namespace Go.Proofs.Ytbafeffmcfldoaa
open Go.RowKit
set_option linter.unusedVariables false

theorem grows_mono (x y c : Int) (h : x ≤ y) : plusI x c ≤ plusI y c := by unfold plusI; split <;> split <;> omega
theorem grows_diff (x y c : Int) (h : plusI y c ≠ 4261412864) (hxy : x ≤ y) : plusI y c - plusI x c = y - x := by
  unfold plusI at *; split at h
  · rw [if_pos (by omega), if_pos (by omega)]; omega
  · omega
theorem grows_zero (x : Int) : plusI x 0 = if x ≤ 4261412864 then x else 4261412864 := by unfold plusI; simp

set_option maxHeartbeats 2000000 in
theorem walkOctetGrows (a0 a1 a2 : Int) (w : World) (w0 : (Lit.int .u32 a0).wf = true) (w1 : (Lit.int .u32 a1).wf = true) (w2 : (Lit.int .u32 a2).wf = true) :
    Calls Try.prog 11 #[.int .u32 a0, .int .u32 a1, .int .u32 a2] w fun e w' => e = .returned (.bool true) ∧ Below w.heap.size w w' := by
  have h0 := wf_u32 w0
  have h1 := wf_u32 w1
  have h2 := wf_u32 w2
  clear w0 w1 w2
  by_cases h01 : a0 ≤ a1
  · have hx := plusI_bd a0 a2 h0.1 h2.1
    have hy := plusI_bd a1 a2 h1.1 h2.1
    have hm := grows_mono a0 a1 a2 h01
    have hz := grows_zero a0
    by_cases hxm : a0 ≤ 4261412864
    all_goals
      first | rw [if_pos hxm] at hz | rw [if_neg hxm] at hz
      by_cases he : plusI a1 a2 = 4261412864
      · go_enter Try.func11, Try.ntmps11
        go_wp2_with (first | (go_at_call 15; refine (awake_any _).mono ?_; rintro e w' ⟨rfl, hb⟩) | (go_at_call 23; refine (plus_any _ _ _ (by omega) (by omega) (by omega) (by omega)).mono ?_; rintro e w' ⟨rfl, rfl⟩))
        all_goals
          go_ret
          exact ⟨rfl, hb⟩
      · have hd := grows_diff a0 a1 a2 he h01
        go_enter Try.func11, Try.ntmps11
        go_wp2_with (first | (go_at_call 15; refine (awake_any _).mono ?_; rintro e w' ⟨rfl, hb⟩) | (go_at_call 23; refine (plus_any _ _ _ (by omega) (by omega) (by omega) (by omega)).mono ?_; rintro e w' ⟨rfl, rfl⟩))
        all_goals
          go_ret
          exact ⟨rfl, hb⟩
  · have h10 : a1 ≤ a0 := by omega
    have hx := plusI_bd a0 a2 h0.1 h2.1
    have hy := plusI_bd a1 a2 h1.1 h2.1
    have hm := grows_mono a1 a0 a2 h10
    have hz := grows_zero a1
    by_cases hxm : a1 ≤ 4261412864
    all_goals
      first | rw [if_pos hxm] at hz | rw [if_neg hxm] at hz
      by_cases he : plusI a0 a2 = 4261412864
      · go_enter Try.func11, Try.ntmps11
        go_wp2_with (first | (go_at_call 15; refine (awake_any _).mono ?_; rintro e w' ⟨rfl, hb⟩) | (go_at_call 23; refine (plus_any _ _ _ (by omega) (by omega) (by omega) (by omega)).mono ?_; rintro e w' ⟨rfl, rfl⟩))
        all_goals
          go_ret
          exact ⟨rfl, hb⟩
      · have hd := grows_diff a1 a0 a2 he h10
        go_enter Try.func11, Try.ntmps11
        go_wp2_with (first | (go_at_call 15; refine (awake_any _).mono ?_; rintro e w' ⟨rfl, hb⟩) | (go_at_call 23; refine (plus_any _ _ _ (by omega) (by omega) (by omega) (by omega)).mono ?_; rintro e w' ⟨rfl, rfl⟩))
        all_goals
          go_ret
          exact ⟨rfl, hb⟩
end Go.Proofs.Ytbafeffmcfldoaa
