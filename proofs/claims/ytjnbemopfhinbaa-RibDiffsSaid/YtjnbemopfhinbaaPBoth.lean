/- Two texts put together; each theorem states its conditions. -/
import Derived.Test.YtjnbemopfhinbaaPRef
/- DocCut. Each theorem states its conditions. -/
namespace Go.Proofs.Ytjnbemopfhinbaa
open Go.RowKit
set_option linter.unusedVariables false

end Go.Proofs.Ytjnbemopfhinbaa
/- checkBoth. Each theorem states its conditions. -/
namespace Go.Proofs.Ytjnbemopfhinbaa
open Go.RowKit
set_option linter.unusedVariables false

/-- the worse of two checks -/
def bothI (fam len : Int) (z : Nat → Int) (fam' len' : Int) (z' : Nat → Int) : Int := if Form fam len z ∧ Form fam' len' z' then 0 else 3
/-- the world behind the entry: two arguments -/
def V2 (fam len : Int) (z : Nat → Int) (fam' len' : Int) (z' : Nat → Int) (w : World) : World := (w.alloc (.cells (pvC fam len z) 32)).alloc (.cells (pvC fam' len' z') 32)
theorem v2_p (fam len : Int) (z : Nat → Int) (fam' len' : Int) (z' : Nat → Int) (w : World) : IsPv (V2 fam len z fam' len' z' w) w.heap.size fam len z := (Below.heap_alloc _ _ _ (by simp)).trans (heap_alloc_new w _)
theorem v2_q (fam len : Int) (z : Nat → Int) (fam' len' : Int) (z' : Nat → Int) (w : World) : IsPv (V2 fam len z fam' len' z' w) (w.heap.size + 1) fam' len' z' := by
  have := heap_alloc_new (w.alloc (.cells (pvC fam len z) 32)) (.cells (pvC fam' len' z') 32)
  rw [World.size_alloc] at this
  exact this
theorem v2_below (fam len : Int) (z : Nat → Int) (fam' len' : Int) (z' : Nat → Int) (w : World) : Below w.heap.size w (V2 fam len z fam' len' z' w) := ((bself w).alloc (Nat.le_refl _) _).alloc (by simp) _

set_option maxHeartbeats 400000 in
set_option maxRecDepth 100000 in
theorem both_any (fam len : Int) (z : Nat → Int) (fam' len' : Int) (z' : Nat → Int) (w : World) (hz : Bytes z) (hz' : Bytes z') :
    Calls Try.prog 56 #[.agg (pvC fam len z), .agg (pvC fam' len' z')] w fun e w' => e = .returned (.int .i64 (bothI fam len z fam' len' z')) ∧ Below w.heap.size w w' := by
  have HP := Lib.hid (v2_p fam len z fam' len' z' w)
  have HQ := Lib.hid (v2_q fam len z fam' len' z' w)
  have hB := Lib.hid (v2_below fam len z fam' len' z' w)
  have H1 := Lib.hid (fun W => check_any fam len z W hz)
  have H2 := Lib.hid (fun W => check_any fam' len' z' W hz')
  have HM := Lib.hid (show (if checkI fam len z < checkI fam' len' z' then checkI fam' len' z' else checkI fam len z) = bothI fam len z fam' len' z' by
    unfold checkI bothI
    by_cases a : Form fam len z <;> by_cases b : Form fam' len' z' <;> simp [a, b])
  go_enter Try.func56, Try.ntmps56
  go_wp2_with fail
  refine wp_region_held_drew (S := fun w' => Hid (IsPv w' w.heap.size fam len z ∧ IsPv w' (w.heap.size + 1) fam' len' z' ∧ Below w.heap.size w w')) (by kernel_rfl) ?_ (fun hHeld => ?_)
  · exact Lib.hid ⟨show IsPv _ _ _ _ _ from HP.out, show IsPv _ _ _ _ _ from HQ.out, hB.out.drew⟩
  refine takeL (i := 0) (some 5) 32 (.tmp 2) w.heap.size 0 (pvC fam len z) _ rfl rfl (by kernel_rfl) (by kernel_rfl) (by kernel_rfl) (fun _ _ _ h => h) (by rfl) rfl rfl (fun w' h => h.out.1.range) Try.underlying32 rfl (hi_pv fam len z) (by assumption) ?_
  simp only [Act.put, List.setIfInBounds_toArray, List.set_cons_zero, List.set_cons_succ]
  refine takeL (i := 2) (some 7) 32 (.tmp 3) (w.heap.size + 1) 0 (pvC fam' len' z') _ rfl rfl (by kernel_rfl) (by kernel_rfl) (by kernel_rfl) (fun _ _ _ h => h) (by rfl) rfl rfl (fun w' h => h.out.2.1.range) Try.underlying32 rfl (hi_pv fam' len' z') (by assumption) ?_
  simp only [Act.put, List.setIfInBounds_toArray, List.set_cons_zero, List.set_cons_succ]
  refine takeC (i := 1) (some 6) 26 #[.agg (pvC fam len z)] (.int .i64 (checkI fam len z)) rfl rfl (by kernel_rfl) (by rfl) (by go_simp) (H1.out _) (fun w1 hb1 => Lib.hid ⟨hHeld.out.1.below hb1 hHeld.out.1.lt, hHeld.out.2.1.below hb1 hHeld.out.2.1.lt, hHeld.out.2.2.trans (hb1.mono hHeld.out.2.2.size)⟩) (fun w3 hb3 hH3 => ?_)
  simp only [Act.put, List.setIfInBounds_toArray, List.set_cons_zero, List.set_cons_succ]
  refine takeC (i := 3) (some 8) 26 #[.agg (pvC fam' len' z')] (.int .i64 (checkI fam' len' z')) rfl rfl (by kernel_rfl) (by rfl) (by go_simp) (H2.out _) (fun w1 hb1 => Lib.hid ⟨hH3.out.1.below hb1 hH3.out.1.lt, hH3.out.2.1.below hb1 hH3.out.2.1.lt, hH3.out.2.2.trans (hb1.mono hH3.out.2.2.size)⟩) (fun w4 hb4 hH4 => ?_)
  simp only [Act.put, List.setIfInBounds_toArray, List.set_cons_zero, List.set_cons_succ]
  refine takeY (i := 4) (some 9) (v := (.int .i64 (bothI fam len z fam' len' z'))) rfl rfl (by kernel_rfl) (by kernel_rfl) (by kernel_rfl) (fun _ _ _ h => h) (by rfl) (fun w' hS => by go_simp; exact HM.out) (by assumption) ?_
  simp only [Act.put, List.setIfInBounds_toArray, List.set_cons_zero, List.set_cons_succ]
  refine takeY (i := 5) (some 4) (v := (.int .i64 (bothI fam len z fam' len' z'))) rfl rfl (by kernel_rfl) (by kernel_rfl) (by kernel_rfl) (fun _ _ _ h => h) (by rfl) (fun w' hS => by go_simp) (by assumption) ?_
  simp only [Act.put, List.setIfInBounds_toArray, List.set_cons_zero, List.set_cons_succ]
  refine wpAnyH_done (by kernel_rfl) ?_ _
  go_wp2
  go_ret
  exact ⟨rfl, hH4.out.2.2⟩
end Go.Proofs.Ytjnbemopfhinbaa
