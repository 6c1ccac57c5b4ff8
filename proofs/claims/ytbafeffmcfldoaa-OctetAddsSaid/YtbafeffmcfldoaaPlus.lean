/- octet.Plus and the document's Plus answer the sum, at most the greatest path. Condition: the arguments are uint32. -/
import Derived.Test.YtbafeffmcfldoaaRows
import Derived.Test.YtbafeffmcfldoaaPlain
import Derived.WalkKit
import Derived.WalkLawsBesides
import Derived.IntWalk
import Derived.Outline
namespace Go.Proofs.Ytbafeffmcfldoaa
open Go.RowKit
set_option linter.unusedVariables false

def plusI (a b : Int) : Int := if a + b ≤ 4261412864 then a + b else 4261412864

theorem plusI_lo {a b : Int} (h : a + b ≤ 4261412864) : plusI a b = a + b := by simp [plusI, h]
theorem plusI_hi {a b : Int} (h : 4261412864 < a + b) : plusI a b = 4261412864 := by simp [plusI]; omega
theorem plusI_bd (a b : Int) (ha : 0 ≤ a) (hb : 0 ≤ b) : 0 ≤ plusI a b ∧ plusI a b ≤ 4261412864 := by unfold plusI; split <;> omega
theorem plusI_comm (a b : Int) : plusI a b = plusI b a := by unfold plusI; rw [Int.add_comm]
theorem plusI_assoc (a b c : Int) (ha : 0 ≤ a) (hb : 0 ≤ b) (hc : 0 ≤ c) : plusI (plusI a b) c = plusI a (plusI b c) := by
  unfold plusI; split <;> split <;> (try split) <;> (try split) <;> omega

theorem plus_any (a b : Int) (w : World) (ha0 : 0 ≤ a) (ha1 : a ≤ 4294967295) (hb0 : 0 ≤ b) (hb1 : b ≤ 4294967295) :
    Calls Try.prog 23 #[.int .u32 a, .int .u32 b] w fun e w' => e = .returned (.int .u32 (plusI a b)) ∧ w = w' := by
  go_enter Try.func23, Try.ntmps23
  go_wp2
  · have h : 4261412864 < a + b := by assumption
    go_ret
    exact ⟨ret_u32 (plusI_hi h).symm, rfl⟩
  · have h : a + b ≤ 4261412864 := by assumption
    go_ret
    exact ⟨ret_u32 (plusI_lo h).symm, rfl⟩

theorem refPlus_any (a b : Int) (w : World) (ha0 : 0 ≤ a) (ha1 : a ≤ 4294967295) (hb0 : 0 ≤ b) (hb1 : b ≤ 4294967295) :
    Calls Try.prog 24 #[.int .u32 a, .int .u32 b] w fun e w' => e = .returned (.int .u32 (plusI a b)) ∧ w = w' := by
  by_cases h1 : 4261412864 ≤ a
  · go_enter Try.func24, Try.ntmps24
    go_wp2
    go_ret
    exact ⟨ret_u32 (by unfold plusI; split <;> omega), rfl⟩
  · by_cases h2 : 4261412864 - a ≤ b
    · go_enter Try.func24, Try.ntmps24
      go_wp2
      go_ret
      exact ⟨ret_u32 (by unfold plusI; split <;> omega), rfl⟩
    · go_enter Try.func24, Try.ntmps24
      go_wp2
      go_ret
      exact ⟨ret_u32 (by unfold plusI; split <;> omega), rfl⟩
end Go.Proofs.Ytbafeffmcfldoaa
