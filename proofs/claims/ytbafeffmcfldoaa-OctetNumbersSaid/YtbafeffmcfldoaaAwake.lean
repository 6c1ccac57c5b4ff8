/- The examples of the document, run: waymarklaw01.awake returns true. No condition. -/
import Derived.Test.YtbafeffmcfldoaaNum
import Derived.Test.YtbafeffmcfldoaaSum
import Derived.Test.YtbafeffmcfldoaaWrite
namespace Go.Proofs.Ytbafeffmcfldoaa
open Go.RowKit
set_option linter.unusedVariables false

theorem num_awake (g : Nat) (w : World) (h0 : w.cell? ⟨g, 0, none⟩ = some (.int .u8 1)) (h1 : w.cell? ⟨g, 1, none⟩ = some (.int .u8 2)) (h2 : w.cell? ⟨g, 2, none⟩ = some (.int .u8 3)) :
    Calls Try.prog 17 #[.slice (some ⟨g, 0, none⟩) 3 3, .int .i64 1, .int .i64 2] w fun e w' => e = .returned (.tuple #[.int .u64 515, .int .i64 0]) ∧ w = w' :=
  num_ok g 0 3 3 (fun j => ([1, 2, 3] : List Int).getD j 0) 1 2 w
    (fun j => by rcases j with _ | _ | _ | j <;> simp) (by decide) (by omega)
    (fun j hj => by rcases (by omega : j = 0 ∨ j = 1 ∨ j = 2) with rfl | rfl | rfl <;> simpa) (by omega) (by omega) (by omega) (by omega)

theorem sum_awake (g : Nat) (w : World) (h0 : w.cell? ⟨g, 0, none⟩ = some (.int .u8 1)) (h1 : w.cell? ⟨g, 1, none⟩ = some (.int .u8 0)) (h2 : w.cell? ⟨g, 2, none⟩ = some (.int .u8 0)) :
    Calls Try.prog 25 #[.slice (some ⟨g, 0, none⟩) 3 3, .int .i64 1] w fun e w' => e = .returned (.tuple #[.int .u16 64769, .int .i64 0]) ∧ w = w' :=
  sum_ok g 0 3 3 (fun j => ([1, 0, 0] : List Int).getD j 0) 1 w
    (fun j => by rcases j with _ | _ | _ | j <;> simp) (by omega)
    (fun j hj => by rcases (by omega : j = 0 ∨ j = 1 ∨ j = 2) with rfl | rfl | rfl <;> simpa) (by omega) (by omega)

theorem write_zero (w : World) :
    Calls Try.prog 30 #[.agg #[.int .u8 0, .int .u8 0, .int .u8 0, .int .u8 0, .int .u8 0, .int .u8 0]] w fun e w' => e = .returned (.string ⟨#[48, 48, 48, 48, 46, 48, 48, 48, 48, 46, 48, 48, 48, 48]⟩) ∧ Below w.heap.size w w' :=
  write_any 0 0 0 0 0 0 w (by omega) (by omega) (by omega) (by omega) (by omega) (by omega)

theorem awake_any (w : World) :
    Calls Try.prog 15 #[] w fun e w' => e = .returned (.bool true) ∧ Below w.heap.size w w' := by
  go_enter Try.func15, Try.ntmps15
  go_wp2_with fail
  refine (num_awake _ _ (by simp) (by simp) (by simp)).mono ?_
  rintro e w' ⟨rfl, rfl⟩
  go_wp2_with fail
  refine (sum_awake _ _ (by simp) (by simp) (by simp)).mono ?_
  rintro e w' ⟨rfl, rfl⟩
  go_wp2_with fail
  refine (write_zero _).mono ?_
  rintro e w' ⟨rfl, hb⟩
  go_wp2
  go_ret
  exact ⟨rfl, (((Below.refl _ _).alloc (Nat.le_refl _) _).alloc (by simp) _).trans (hb.mono (by simp; omega))⟩
end Go.Proofs.Ytbafeffmcfldoaa
