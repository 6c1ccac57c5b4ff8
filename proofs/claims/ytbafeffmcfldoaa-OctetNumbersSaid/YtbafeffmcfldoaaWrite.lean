/- octet.Write answers the text of any name. No condition but that the name is of bytes. -/
import Derived.Test.YtbafeffmcfldoaaRows
import Derived.Test.YtbafeffmcfldoaaPlain
import Derived.WalkKit
import Derived.WalkLawsBesides
import Derived.WalkSpells
import Derived.IntWalk
import Derived.Outline
import Derived.LoopN
import Derived.Below
import Derived.Lib.Hide
import Derived.Laws.BytesArg
namespace Go.Proofs.Ytbafeffmcfldoaa
open Go.RowKit
set_option linter.unusedVariables false

theorem conv14 (W : World) (g : Nat) (hg : g = W.heap.size) (c0 c1 c2 c3 c4 c5 c6 c7 c8 c9 c10 c11 c12 c13 : Int) :
    (convert 22 9 (.slice (some ⟨g, 0, none⟩) 14 14)).run Try.prog (W.alloc (.cells #[.int .u8 c0, .int .u8 c1, .int .u8 c2, .int .u8 c3, .int .u8 c4, .int .u8 c5, .int .u8 c6, .int .u8 c7, .int .u8 c8, .int .u8 c9, .int .u8 c10, .int .u8 c11, .int .u8 c12, .int .u8 c13] 80)) =
      .ok (.string (strOfNums [c0, c1, c2, c3, c4, c5, c6, c7, c8, c9, c10, c11, c12, c13])) (W.alloc (.cells #[.int .u8 c0, .int .u8 c1, .int .u8 c2, .int .u8 c3, .int .u8 c4, .int .u8 c5, .int .u8 c6, .int .u8 c7, .int .u8 c8, .int .u8 c9, .int .u8 c10, .int .u8 c11, .int .u8 c12, .int .u8 c13] 80)) := by
  subst hg
  refine run_convert_bytes_arg _ 22 5 Try.underlying22 Try.underlying5 _ 0 14 14 [c0, c1, c2, c3, c4, c5, c6, c7, c8, c9, c10, c11, c12, c13] rfl ?_ 9 Try.underlying9
  intro i hi
  simp only [World.cell?_alloc_new, Nat.zero_add]
  rcases (by omega : i = 0 ∨ i = 1 ∨ i = 2 ∨ i = 3 ∨ i = 4 ∨ i = 5 ∨ i = 6 ∨ i = 7 ∨ i = 8 ∨ i = 9 ∨ i = 10 ∨ i = 11 ∨ i = 12 ∨ i = 13) with rfl | rfl | rfl | rfl | rfl | rfl | rfl | rfl | rfl | rfl | rfl | rfl | rfl | rfl <;> rfl

theorem ret_name (b0 b1 b2 b3 b4 b5 : Int) (c0 c1 c2 c3 c4 c5 c6 c7 c8 c9 c10 c11 c12 c13 : Int) (e0 : c0 = hxI (b0 / 16)) (e1 : c1 = hxI (b0 % 16)) (e2 : c2 = hxI (b1 / 16)) (e3 : c3 = hxI (b1 % 16)) (e4 : c4 = 46) (e5 : c5 = hxI (b2 / 16)) (e6 : c6 = hxI (b2 % 16)) (e7 : c7 = hxI (b3 / 16)) (e8 : c8 = hxI (b3 % 16)) (e9 : c9 = 46) (e10 : c10 = hxI (b4 / 16)) (e11 : c11 = hxI (b4 % 16)) (e12 : c12 = hxI (b5 / 16)) (e13 : c13 = hxI (b5 % 16)) :
    Ending.returned (.string (strOfNums [c0, c1, c2, c3, c4, c5, c6, c7, c8, c9, c10, c11, c12, c13])) = .returned (.string (strOfNums (nameI b0 b1 b2 b3 b4 b5))) := by
  rw [e0, e1, e2, e3, e4, e5, e6, e7, e8, e9, e10, e11, e12, e13]; rfl

set_option maxRecDepth 100000 in
set_option maxHeartbeats 4000000 in
theorem write_any (b0 b1 b2 b3 b4 b5 : Int) (w : World) 
    (h0 : 0 ≤ b0 ∧ b0 ≤ 255) (h1 : 0 ≤ b1 ∧ b1 ≤ 255) (h2 : 0 ≤ b2 ∧ b2 ≤ 255) (h3 : 0 ≤ b3 ∧ b3 ≤ 255) (h4 : 0 ≤ b4 ∧ b4 ≤ 255) (h5 : 0 ≤ b5 ∧ b5 ≤ 255) :
    Calls Try.prog 30 #[.agg #[.int .u8 b0, .int .u8 b1, .int .u8 b2, .int .u8 b3, .int .u8 b4, .int .u8 b5]] w fun e w' => e = .returned (.string (strOfNums (nameI b0 b1 b2 b3 b4 b5))) ∧ Below w.heap.size w w' := by
  have hconv := conv14
  go_enter Try.func30, Try.ntmps30
  go_wp2
  refine wp_loop_rounds 15 ?_
  iterate 15 (rw [rounds_succ]; go_wp2)
  go_ret
  refine ⟨?_, ((Below.refl _ _).alloc (Nat.le_refl _) _).alloc (by simp) _⟩
  exact ret_name b0 b1 b2 b3 b4 b5 _ _ _ _ _ _ _ _ _ _ _ _ _ _ ((hx_at _ (by omega) (by omega) _).trans (congrArg hxI (by omega))) ((hx_at _ (by omega) (by omega) _).trans (congrArg hxI (by omega))) ((hx_at _ (by omega) (by omega) _).trans (congrArg hxI (by omega))) ((hx_at _ (by omega) (by omega) _).trans (congrArg hxI (by omega))) rfl ((hx_at _ (by omega) (by omega) _).trans (congrArg hxI (by omega))) ((hx_at _ (by omega) (by omega) _).trans (congrArg hxI (by omega))) ((hx_at _ (by omega) (by omega) _).trans (congrArg hxI (by omega))) ((hx_at _ (by omega) (by omega) _).trans (congrArg hxI (by omega))) rfl ((hx_at _ (by omega) (by omega) _).trans (congrArg hxI (by omega))) ((hx_at _ (by omega) (by omega) _).trans (congrArg hxI (by omega))) ((hx_at _ (by omega) (by omega) _).trans (congrArg hxI (by omega))) ((hx_at _ (by omega) (by omega) _).trans (congrArg hxI (by omega)))
end Go.Proofs.Ytbafeffmcfldoaa
