/- The text of nought in base 16: strconv.FormatUint(0, 16) is "0". One condition: the library's table of math/bits holds 4 at the place 2 (it lies as the text lays it). -/
import Derived.Test.YtnllhedmkjmaiaaDoorPEq
import Derived.Laws.IdiomStrings
namespace Go.Proofs.YtnllhedmkjmaiaaDoor
open Go.RowKit
set_option linter.unusedVariables false

theorem tz16 (w : World) (h : w.cell? ⟨5, 15, none⟩ = some (.int .u8 4)) :
    Calls Tryd.prog 96 #[.int .u64 16] w fun e w' => e = .returned (.int .i64 4) ∧ w = w' := by
  go_enter Tryd.func96, Tryd.ntmps96
  have e2 : bits BinOp.and IntKind.u64 16 (IntKind.u64.wrap (-16)) = 16 := by kernel_rfl
  have e3 : IntKind.u64.wrap (16 * 285870213051353865) / 288230376151711744 = 15 := by kernel_rfl
  go_wp2
  go_ret
  exact ⟨rfl, rfl⟩

theorem tz (w : World) (h : w.cell? ⟨5, 15, none⟩ = some (.int .u8 4)) :
    Calls Tryd.prog 82 #[.int .u64 16] w fun e w' => e = .returned (.int .i64 4) ∧ w = w' := by
  go_enter Tryd.func82, Tryd.ntmps82
  go_wp2_with (refine (tz16 _ h).mono ?_; rintro e w' ⟨rfl, rfl⟩)
  go_ret
  exact ⟨rfl, rfl⟩

theorem pow2 (w : World) :
    Calls Tryd.prog 81 #[.int .i64 16] w fun e w' => e = .returned (.bool true) ∧ w = w' := by
  go_enter Tryd.func81, Tryd.ntmps81
  go_wp2
  go_ret
  exact ⟨rfl, rfl⟩

theorem conv1 (w : World) (b o : Nat) (h : w.cell? ⟨b, o, none⟩ = some (.int .u8 48)) :
    (convert 60 9 (.slice (some ⟨b, o, none⟩) 1 1)).run Tryd.prog w = .ok (.string ⟨#[48]⟩) w := by
  refine run_convert_bytes_back w 60 9 5 ⟨b, o, none⟩ 1 [48] (by kernel_rfl) (by kernel_rfl) (by kernel_rfl) (fun j hj => ?_)
  have : j = 0 := by simpa using hj
  subst this
  exact h

set_option maxHeartbeats 400000 in
set_option maxRecDepth 100000 in
theorem bits0 (w : World) (hs : 5 < w.heap.size) (h : w.cell? ⟨5, 15, none⟩ = some (.int .u8 4)) :
    Calls Tryd.prog 71 #[.slice none 0 0, .int .u64 0, .int .i64 16, .bool false, .bool false] w fun e w' => e = .returned (.tuple #[.slice none 0 0, .string ⟨#[48]⟩]) ∧ Below w.heap.size w w' := by
  go_enter Tryd.func71, Tryd.ntmps71
  go_wp2_with (first | (refine (pow2 _).mono ?_; rintro e w' ⟨rfl, rfl⟩) | (refine (tz _ ((World.cell?_alloc_lt _ _ _ (by simp; omega)).trans h)).mono ?_; rintro e w' ⟨rfl, rfl⟩))
  refine wp_loop_rounds 1 ?_
  rw [rounds_succ]
  go_wp2
  rw [conv1 _ w.heap.size 64 ?_]
  · go_wp2
    go_ret2
    exact ⟨rfl, (bself w).alloc (Nat.le_refl _) _⟩
  · have hz : Tryd.zeroCells117.size = 65 := by kernel_rfl
    rw [World.cell?_alloc_mark w _ _ _ 64, Array.getElem?_setIfInBounds_self_of_lt (by omega)]
    exact congrArg (fun n => some (Value.int IntKind.u8 n)) (by kernel_rfl)

theorem fmtin0 (w : World) (hs : 5 < w.heap.size) (h : w.cell? ⟨5, 15, none⟩ = some (.int .u8 4)) :
    Calls Tryd.prog 60 #[.int .u64 0, .int .i64 16] w fun e w' => e = .returned (.string ⟨#[48]⟩) ∧ Below w.heap.size w w' := by
  go_enter Tryd.func60, Tryd.ntmps60
  go_wp2_with (refine (bits0 _ hs h).mono ?_; rintro e w' ⟨rfl, hb⟩)
  go_ret
  exact ⟨rfl, hb⟩

theorem fmt0 (w : World) (hs : 5 < w.heap.size) (h : w.cell? ⟨5, 15, none⟩ = some (.int .u8 4)) :
    Calls Tryd.prog 47 #[.int .u64 0, .int .i64 16] w fun e w' => e = .returned (.string ⟨#[48]⟩) ∧ Below w.heap.size w w' := by
  go_enter Tryd.func47, Tryd.ntmps47
  go_wp2_with (refine (fmtin0 _ hs h).mono ?_; rintro e w' ⟨rfl, hb⟩)
  go_ret
  exact ⟨rfl, hb⟩
end Go.Proofs.YtnllhedmkjmaiaaDoor
