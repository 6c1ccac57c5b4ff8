/- The document's readers of lists: no bytes, too many bytes, a family that isn't one. Each theorem states its conditions. -/
import Derived.Test.YtplfilghhgdffaaDGetRp
namespace Go.Proofs.Ytplfilghhgdffaa
open Go.RowKit
set_option linter.unusedVariables false

theorem docGetEdges_long (A : Option Addr) (n c : Nat) (w : World) (hn : 255 < n) :
    Calls Try.prog 20 #[.slice A n c] w fun e w' => e = .returned (.tuple #[.slice none 0 0, .int .i64 2]) ∧ w' = w := by
  have h1 : (255 : Int) < (n : Int) := by omega
  go_enter Try.func20, Try.ntmps20
  go_wp2
  go_ret2
  exact ⟨rfl, rfl⟩
theorem docGetEdges_nil (A : Option Addr) (c : Nat) (w : World) :
    Calls Try.prog 20 #[.slice A 0 c] w fun e w' => e = .returned (.tuple #[.slice none 0 0, .int .i64 0]) ∧ w' = w := by
  go_enter Try.func20, Try.ntmps20
  go_wp2
  refine wp_loop_rounds 1 ?_
  rw [rounds_succ]
  go_wp2
  go_ret2
  exact ⟨rfl, rfl⟩
theorem docGetReach_arg (fam : Int) (A : Option Addr) (n c : Nat) (w : World) (h4 : (fam == 4) = false) (h6 : (fam == 6) = false) :
    Calls Try.prog 21 #[.int .u8 fam, .slice A n c] w fun e w' => e = .returned (.tuple #[.slice none 0 0, .int .i64 1]) ∧ w' = w := by
  have g4 : (fam != 4) = true := by simp only [bne, h4]; rfl
  have g6 : (fam != 6) = true := by simp only [bne, h6]; rfl
  go_enter Try.func21, Try.ntmps21
  go_wp2
  go_ret2
  exact ⟨rfl, rfl⟩
theorem docGetReach_long (fam : Nat) (hf : fam = 4 ∨ fam = 6) (A : Option Addr) (n c : Nat) (w : World) (hn : 255 < n) :
    Calls Try.prog 21 #[.int .u8 (fam : Int), .slice A n c] w fun e w' => e = .returned (.tuple #[.slice none 0 0, .int .i64 2]) ∧ w' = w := by
  have h1 : (255 : Int) < (n : Int) := by omega
  rcases hf with rfl | rfl
  · go_enter Try.func21, Try.ntmps21
    go_wp2
    go_ret2
    exact ⟨rfl, rfl⟩
  · go_enter Try.func21, Try.ntmps21
    go_wp2
    go_ret2
    exact ⟨rfl, rfl⟩
theorem docGetReach_nil (fam : Nat) (hf : fam = 4 ∨ fam = 6) (A : Option Addr) (c : Nat) (w : World) :
    Calls Try.prog 21 #[.int .u8 (fam : Int), .slice A 0 c] w fun e w' => e = .returned (.tuple #[.slice none 0 0, .int .i64 0]) ∧ w' = w := by
  rcases hf with rfl | rfl
  · go_enter Try.func21, Try.ntmps21
    go_wp2
    refine wp_loop_rounds 1 ?_
    rw [rounds_succ]
    go_wp2
    go_ret2
    exact ⟨rfl, rfl⟩
  · go_enter Try.func21, Try.ntmps21
    go_wp2
    refine wp_loop_rounds 1 ?_
    rw [rounds_succ]
    go_wp2
    go_ret2
    exact ⟨rfl, rfl⟩
end Go.Proofs.Ytplfilghhgdffaa
