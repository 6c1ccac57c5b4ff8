/- waymarkref01.Write answers the name's text, as octet.Write does. Condition: the name is of bytes. -/
import Derived.Test.YtbafeffmcfldoaaRows
import Derived.Test.YtbafeffmcfldoaaName
import Derived.WalkKit
import Derived.WalkLawsBesides
import Derived.WalkSpells
import Derived.IntWalk
import Derived.Outline
import Derived.Below
import Derived.LoopN
import Derived.Lib.Hide
import Derived.RegionTactic
import Derived.ChangeAlike
namespace Go.Proofs.Ytbafeffmcfldoaa
open Go.RowKit
set_option linter.unusedVariables false

theorem hex_cut (d : Int) (h0 : 0 ≤ d) (h1 : d < 16) : (ByteArray.mk #[48, 49, 50, 51, 52, 53, 54, 55, 56, 57, 97, 98, 99, 100, 101, 102]).extract d.toNat (d + 1).toNat = strOfNums [hxI d] := by
  rcases (by omega : d = 0 ∨ d = 1 ∨ d = 2 ∨ d = 3 ∨ d = 4 ∨ d = 5 ∨ d = 6 ∨ d = 7 ∨ d = 8 ∨ d = 9 ∨ d = 10 ∨ d = 11 ∨ d = 12 ∨ d = 13 ∨ d = 14 ∨ d = 15) with rfl | rfl | rfl | rfl | rfl | rfl | rfl | rfl | rfl | rfl | rfl | rfl | rfl | rfl | rfl | rfl <;> decide
theorem nums_cat (xs ys : List Int) : strOfNums xs ++ strOfNums ys = strOfNums (xs ++ ys) := by
  apply ByteArray.ext
  simp [strOfNums, ByteArray.data_append]
theorem nums_nil : (ByteArray.mk #[]) = strOfNums [] := rfl
theorem cat_first (d : Int) (h0 : 0 ≤ d) (h1 : d < 16) : (ByteArray.mk #[]) ++ (ByteArray.mk #[48, 49, 50, 51, 52, 53, 54, 55, 56, 57, 97, 98, 99, 100, 101, 102]).extract d.toNat (d + 1).toNat = strOfNums [hxI d] := by
  rw [hex_cut d h0 h1, nums_nil, nums_cat]; rfl
theorem cat_next (xs : List Int) (d : Int) (h0 : 0 ≤ d) (h1 : d < 16) : strOfNums xs ++ (ByteArray.mk #[48, 49, 50, 51, 52, 53, 54, 55, 56, 57, 97, 98, 99, 100, 101, 102]).extract d.toNat (d + 1).toNat = strOfNums (xs ++ [hxI d]) := by
  rw [hex_cut d h0 h1, nums_cat]
theorem cat_dot (xs : List Int) : strOfNums xs ++ (ByteArray.mk #[46]) = strOfNums (xs ++ [46]) := by
  rw [← nums_cat]; rfl

set_option maxHeartbeats 8000000 in
set_option maxRecDepth 100000 in
theorem refWrite_any (b0 b1 b2 b3 b4 b5 : Int) (w : World)
    (h0 : 0 ≤ b0 ∧ b0 ≤ 255) (h1 : 0 ≤ b1 ∧ b1 ≤ 255) (h2 : 0 ≤ b2 ∧ b2 ≤ 255) (h3 : 0 ≤ b3 ∧ b3 ≤ 255) (h4 : 0 ≤ b4 ∧ b4 ≤ 255) (h5 : 0 ≤ b5 ∧ b5 ≤ 255) :
    Calls Try.prog 33 #[.agg #[.int .u8 b0, .int .u8 b1, .int .u8 b2, .int .u8 b3, .int .u8 b4, .int .u8 b5]] w fun e w' => e = .returned (.string (nameS b0 b1 b2 b3 b4 b5)) ∧ Below w.heap.size w w' := by
  have p0 : 0 ≤ b0 / 16 ∧ b0 / 16 < 16 := by omega
  have q0 : 0 ≤ b0 % 16 ∧ b0 % 16 < 16 := by omega
  have p1 : 0 ≤ b1 / 16 ∧ b1 / 16 < 16 := by omega
  have q1 : 0 ≤ b1 % 16 ∧ b1 % 16 < 16 := by omega
  have p2 : 0 ≤ b2 / 16 ∧ b2 / 16 < 16 := by omega
  have q2 : 0 ≤ b2 % 16 ∧ b2 % 16 < 16 := by omega
  have p3 : 0 ≤ b3 / 16 ∧ b3 / 16 < 16 := by omega
  have q3 : 0 ≤ b3 % 16 ∧ b3 % 16 < 16 := by omega
  have p4 : 0 ≤ b4 / 16 ∧ b4 / 16 < 16 := by omega
  have q4 : 0 ≤ b4 % 16 ∧ b4 % 16 < 16 := by omega
  have p5 : 0 ≤ b5 / 16 ∧ b5 / 16 < 16 := by omega
  have q5 : 0 ≤ b5 % 16 ∧ b5 % 16 < 16 := by omega
  have hc1 := cat_first
  have hc2 := cat_next
  have hc3 := cat_dot
  have hsz := strOfNums_size
  go_enter Try.func33, Try.ntmps33
  go_wp2
  refine wp_loop_rounds 7 ?_
  iterate 6
    rw [rounds_succ]
    go_wp2
    go_region
    go_wp2
    refine wp_loop_rounds 3 ?_
    iterate 3 (rw [rounds_succ]; go_wp2)
  rw [rounds_succ]
  go_wp2
  go_ret
  exact ⟨rfl, ((((((balloc (balloc (balloc (balloc (balloc (balloc (balloc (bself w) _) _) _) _) _) _) _).drew).drew).drew).drew).drew).drew⟩
end Go.Proofs.Ytbafeffmcfldoaa
