/- hasLength, Sized, Bit, first: what they answer. Each theorem states its conditions. -/
import Derived.Test.YtjnbemopfhinbaaRows
import Derived.Test.YtjnbemopfhinbaaSpare
import Derived.WalkKit
import Derived.WalkLawsBesides
import Derived.WalkSpells
import Derived.IntWalk
import Derived.Outline
import Derived.Below
import Derived.Lib.Hide
import Derived.LoopN
import Derived.RegionTactic
import Derived.Deep.QuietTactic
import Derived.Deep.RegionHeld3
import Derived.BigQuiet
import Derived.OwnWalk
namespace Go.Proofs.Ytjnbemopfhinbaa
open Go.RowKit
set_option linter.unusedVariables false

/-- a prefix as a value -/
def pv (fam len : Int) (z : Nat → Int) : Value := .agg #[.int .u8 fam, .int .i64 len, .int .u8 (z 0), .int .u8 (z 1), .int .u8 (z 2), .int .u8 (z 3), .int .u8 (z 4), .int .u8 (z 5), .int .u8 (z 6), .int .u8 (z 7), .int .u8 (z 8), .int .u8 (z 9), .int .u8 (z 10), .int .u8 (z 11), .int .u8 (z 12), .int .u8 (z 13), .int .u8 (z 14), .int .u8 (z 15)]
theorem bdrewN {B : Nat} {a w : World} (h : Below B a w) (m : Nat) : Below B a (w.drewN m) := ⟨h.os, h.tape, h.output, h.size, h.block⟩

theorem ret_u8 {a b : Int} (h : a = b) : Ending.returned (.int .u8 a) = .returned (.int .u8 b) := by rw [h]
theorem and_one (v : Int) (h : 0 ≤ v ∧ v ≤ 255) (k : Nat) (hk : k < 8) : bits .and .u8 (v / 2 ^ k) 1 = v / 2 ^ k % 2 := by
  obtain ⟨n, rfl⟩ := Int.eq_ofNat_of_zero_le h.1
  have hn : n < 256 := by omega
  have key : ∀ k, k < 8 → ∀ n : Nat, n < 256 → bits .and .u8 ((n : Int) / 2 ^ k) 1 = (n : Int) / 2 ^ k % 2 := by decide +kernel
  exact key k hk n hn
theorem and_P (v : Int) (h : 0 ≤ v ∧ v ≤ 255) (k : Nat) (P : Int) (hk : k < 8) (hP : (2 : Int) ^ k = P) : bits .and .u8 (v / P) 1 = v / P % 2 := by
  subst hP; exact and_one v h k hk
theorem ag_at (z : Nat → Int) (q : Nat) (hq : q < 16) : ∀ h : q < ([.int .u8 (z 0), .int .u8 (z 1), .int .u8 (z 2), .int .u8 (z 3), .int .u8 (z 4), .int .u8 (z 5), .int .u8 (z 6), .int .u8 (z 7), .int .u8 (z 8), .int .u8 (z 9), .int .u8 (z 10), .int .u8 (z 11), .int .u8 (z 12), .int .u8 (z 13), .int .u8 (z 14), .int .u8 (z 15)] : List Value).length, ([.int .u8 (z 0), .int .u8 (z 1), .int .u8 (z 2), .int .u8 (z 3), .int .u8 (z 4), .int .u8 (z 5), .int .u8 (z 6), .int .u8 (z 7), .int .u8 (z 8), .int .u8 (z 9), .int .u8 (z 10), .int .u8 (z 11), .int .u8 (z 12), .int .u8 (z 13), .int .u8 (z 14), .int .u8 (z 15)] : List Value)[q]'h = .int .u8 (z q) := by
  rcases (by omega : q = 0 ∨ q = 1 ∨ q = 2 ∨ q = 3 ∨ q = 4 ∨ q = 5 ∨ q = 6 ∨ q = 7 ∨ q = 8 ∨ q = 9 ∨ q = 10 ∨ q = 11 ∨ q = 12 ∨ q = 13 ∨ q = 14 ∨ q = 15) with rfl | rfl | rfl | rfl | rfl | rfl | rfl | rfl | rfl | rfl | rfl | rfl | rfl | rfl | rfl | rfl <;> intro h <;> rfl

set_option maxHeartbeats 1000000 in
theorem hasLength_any (fam len : Int) (z : Nat → Int) (w : World) :
    Calls Try.prog 54 #[pv fam len z] w fun e w' => e = .returned (.bool (decide (Sized fam len))) ∧ Below w.heap.size w w' := by
  unfold pv
  by_cases h4 : fam = 4
  · subst h4
    go_enter Try.func54, Try.ntmps54
    go_wp2
    all_goals go_ret
    all_goals refine ⟨ret_bool ?_, (bself w).alloc (Nat.le_refl _) _⟩
    all_goals (simp [Sized] <;> omega)
  · by_cases h6 : fam = 6
    · subst h6
      go_enter Try.func54, Try.ntmps54
      go_wp2
      all_goals go_ret
      all_goals refine ⟨ret_bool ?_, (bself w).alloc (Nat.le_refl _) _⟩
      all_goals (simp [Sized] <;> omega)
    · go_enter Try.func54, Try.ntmps54
      go_wp2
      go_ret
      refine ⟨ret_bool ?_, (bself w).alloc (Nat.le_refl _) _⟩
      simp [Sized, h4, h6]

/-- how many bits a family has -/
def bitsI (fam : Int) : Int := if fam = 4 then 32 else if fam = 6 then 128 else -1
theorem bits_any (fam : Int) (w : World) : Calls Try.prog 25 #[.int .u8 fam] w fun e w' => e = .returned (.int .i64 (bitsI fam)) ∧ w' = w := by
  unfold bitsI
  by_cases h4 : fam = 4
  · subst h4
    go_enter Try.func25, Try.ntmps25
    go_wp2
    go_ret
    exact ⟨rfl, rfl⟩
  · by_cases h6 : fam = 6
    · subst h6
      go_enter Try.func25, Try.ntmps25
      go_wp2
      go_ret
      exact ⟨rfl, rfl⟩
    · rw [if_neg h4, if_neg h6]
      go_enter Try.func25, Try.ntmps25
      go_wp2
      go_ret
      exact ⟨rfl, rfl⟩

set_option maxHeartbeats 1000000 in
theorem sized_any (fam len : Int) (z : Nat → Int) (w : World) :
    Calls Try.prog 84 #[pv fam len z] w fun e w' => e = .returned (.bool (decide (Sized fam len))) ∧ Below w.heap.size w w' := by
  unfold pv
  have H := Lib.hid (bits_any fam)
  have hs : Sized fam len ↔ 0 ≤ len ∧ len ≤ bitsI fam := by unfold Sized bitsI; split <;> (try split) <;> omega
  have HS := Lib.hid hs
  by_cases h0 : 0 ≤ len
  · go_enter Try.func84, Try.ntmps84
    go_wp2_with fail
    go_quiet (first | (go_at_call 25; exact Calls.quiet_of_same (H.out _)))
    go_wp2
    go_ret
    refine ⟨ret_bool ?_, bdrewN ((bself w).alloc (Nat.le_refl _) _) _⟩
    have := HS.out
    simp [this, h0]
  · have h0' : decide (0 ≤ len) = false := by simpa using h0
    go_enter Try.func84, Try.ntmps84
    go_wp2_with fail
    go_quiet (fail)
    go_wp2
    go_ret
    refine ⟨ret_bool ?_, bdrewN ((bself w).alloc (Nat.le_refl _) _) _⟩
    have := HS.out
    simp [this] <;> omega

set_option maxHeartbeats 2000000 in
theorem bit_any (z : Nat → Int) (q r : Nat) (hq : q < 16) (hr : r < 8) (w : World) (hz : Bytes z) (i : Int) (hi : i = 8 * (q : Int) + r) :
    Calls Try.prog 81 #[.agg (ag z), .int .i64 i] w fun e w' => e = .returned (.int .u8 (z q / 2 ^ (7 - r) % 2)) ∧ Below w.heap.size w w' := by
  unfold ag
  have h1 : i.tdiv 8 = (q : Int) := by rw [Int.tdiv_eq_ediv_of_nonneg (by omega)]; omega
  have h2 : i.tmod 8 = (r : Int) := by rw [Int.tmod_eq_emod_of_nonneg (by omega)]; omega
  have h3 := ag_at z q hq
  have hzq := hz q
  have hq0 : (0 : Int) ≤ (q : Int) := by omega
  have hq1 : (q : Int) < 16 := by omega
  clear hi
  rcases (by omega : r = 0 ∨ r = 1 ∨ r = 2 ∨ r = 3 ∨ r = 4 ∨ r = 5 ∨ r = 6 ∨ r = 7) with rfl | rfl | rfl | rfl | rfl | rfl | rfl | rfl
  · have hP : (2 : Int) ^ (7 - 0) = 128 := by decide
    rw [hP]
    have hA := Lib.hid (and_P (z q) hzq 7 128 (by omega) (by decide))
    go_enter Try.func81, Try.ntmps81
    go_wp2
    go_ret
    exact ⟨ret_u8 hA.out, (bself w).alloc (Nat.le_refl _) _⟩
  · have hP : (2 : Int) ^ (7 - 1) = 64 := by decide
    rw [hP]
    have hA := Lib.hid (and_P (z q) hzq 6 64 (by omega) (by decide))
    go_enter Try.func81, Try.ntmps81
    go_wp2
    go_ret
    exact ⟨ret_u8 hA.out, (bself w).alloc (Nat.le_refl _) _⟩
  · have hP : (2 : Int) ^ (7 - 2) = 32 := by decide
    rw [hP]
    have hA := Lib.hid (and_P (z q) hzq 5 32 (by omega) (by decide))
    go_enter Try.func81, Try.ntmps81
    go_wp2
    go_ret
    exact ⟨ret_u8 hA.out, (bself w).alloc (Nat.le_refl _) _⟩
  · have hP : (2 : Int) ^ (7 - 3) = 16 := by decide
    rw [hP]
    have hA := Lib.hid (and_P (z q) hzq 4 16 (by omega) (by decide))
    go_enter Try.func81, Try.ntmps81
    go_wp2
    go_ret
    exact ⟨ret_u8 hA.out, (bself w).alloc (Nat.le_refl _) _⟩
  · have hP : (2 : Int) ^ (7 - 4) = 8 := by decide
    rw [hP]
    have hA := Lib.hid (and_P (z q) hzq 3 8 (by omega) (by decide))
    go_enter Try.func81, Try.ntmps81
    go_wp2
    go_ret
    exact ⟨ret_u8 hA.out, (bself w).alloc (Nat.le_refl _) _⟩
  · have hP : (2 : Int) ^ (7 - 5) = 4 := by decide
    rw [hP]
    have hA := Lib.hid (and_P (z q) hzq 2 4 (by omega) (by decide))
    go_enter Try.func81, Try.ntmps81
    go_wp2
    go_ret
    exact ⟨ret_u8 hA.out, (bself w).alloc (Nat.le_refl _) _⟩
  · have hP : (2 : Int) ^ (7 - 6) = 2 := by decide
    rw [hP]
    have hA := Lib.hid (and_P (z q) hzq 1 2 (by omega) (by decide))
    go_enter Try.func81, Try.ntmps81
    go_wp2
    go_ret
    exact ⟨ret_u8 hA.out, (bself w).alloc (Nat.le_refl _) _⟩
  · have hP : (2 : Int) ^ (7 - 7) = 1 := by decide
    rw [hP]
    have hA := Lib.hid (and_P (z q) hzq 0 1 (by omega) (by decide))
    go_enter Try.func81, Try.ntmps81
    go_wp2
    go_ret
    exact ⟨ret_u8 (by have := hA.out; simpa using this), (bself w).alloc (Nat.le_refl _) _⟩
end Go.Proofs.Ytjnbemopfhinbaa
