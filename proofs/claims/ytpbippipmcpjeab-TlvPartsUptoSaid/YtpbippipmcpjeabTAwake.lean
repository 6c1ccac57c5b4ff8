/- The example of the document, run: waymarklaw04.awake returns true. No condition. -/
import Derived.Test.YtpbippipmcpjeabTJoin
import Derived.Lib.SmallJoins
namespace Go.Proofs.Ytpbippipmcpjeab
open Go.RowKit
set_option linter.unusedVariables false

theorem bdrewN {B : Nat} {a w : World} (h : Below B a w) (m : Nat) : Below B a (w.drewN m) := ⟨h.os, h.tape, h.output, h.size, h.block⟩

/-- the example's list, its first value in block g -/
def exL (g : Nat) : Nat → It := fun j => if j = 0 then ⟨1, some ⟨g, 0, none⟩, 2, 2, two 97 98⟩ else ⟨9, none, 0, 0, fun _ => 0⟩
theorem exL_sz (g : Nat) : sz (exL g) 2 = 6 := rfl
theorem exL_ends (g : Nat) : JEnds (exL g) 2 2 := by
  refine ⟨by omega, fun k hk => ?_, .inl rfl⟩
  rcases (by omega : k = 0 ∨ k = 1) with rfl | rfl <;> simp [bad, sz, exL]
def exZ : Nat → Int := fun j => ([1, 2, 97, 98, 9, 0] : List Int).getD j 0
theorem exL_J (g : Nat) : ∀ j, j < 6 → J (exL g) 2 j = exZ j := by
  intro j hj
  rcases (by omega : j = 0 ∨ j = 1 ∨ j = 2 ∨ j = 3 ∨ j = 4 ∨ j = 5) with rfl | rfl | rfl | rfl | rfl | rfl <;> simp [J, cat, sz, exL, two, exZ]

theorem exL_rd (w : World) (g h : Nat) (c0 : w.cell? ⟨g, 0, none⟩ = some (.int .u8 97)) (c1 : w.cell? ⟨g, 1, none⟩ = some (.int .u8 98))
    (d0 : w.cell? ⟨h, 0, none⟩ = some (.int .u8 1)) (d1 : w.cell? ⟨h, 1, none⟩ = some (.slice (some ⟨g, 0, none⟩) 2 2)) (d2 : w.cell? ⟨h, 2, none⟩ = some (.int .u8 9)) (d3 : w.cell? ⟨h, 3, none⟩ = some (.slice none 0 0)) :
    RdT w (some ⟨h, 0, none⟩) 2 (exL g) := by
  refine .inr ⟨h, 0, rfl, cell_lt d0, fun j hj => ?_⟩
  rcases (by omega : j = 0 ∨ j = 1) with rfl | rfl
  · refine ⟨d0, d1, ⟨by simp [exL], by simp [exL]⟩, ⟨.inr ⟨g, 0, rfl, cell_lt c0, fun j hj => ?_, two_bd (by decide) (by decide)⟩, two_bd (by decide) (by decide)⟩, fun e => by simp [exL] at e, by simp [exL]⟩
    have hj' : j < 2 := hj
    rcases (by omega : j = 0 ∨ j = 1) with rfl | rfl
    · exact c0
    · exact c1
  · exact ⟨d2, d3, ⟨by simp [exL], by simp [exL]⟩, ⟨.inl rfl, fun j => ⟨by simp [exL], by simp [exL]⟩⟩, fun _ => ⟨rfl, rfl⟩, by simp [exL]⟩

set_option maxHeartbeats 1000000 in
theorem awake_any (w : World) :
    Calls Try.prog 7 #[] w fun e w' => e = .returned (.bool true) ∧ Below w.heap.size w w' := by
  have hcv := Lib.run_convert_bytes_const (P := Try.prog) w 25 5 #[.int .u8 97, .int .u8 98] 2 2 Try.underlying25 Try.underlying5
  go_enter Try.func7, Try.ntmps7
  go_wp2_with fail
  refine (join_any (some ⟨w.heap.size + 1, 0, none⟩) 2 2 2 (exL w.heap.size) _ ?_ (by omega) (by omega) (exL_ends _)).mono ?_
  · exact exL_rd _ _ _ ((World.cell?_alloc_lt _ _ _ (by simp)).trans (World.cell?_alloc_mark w _ _ _ 0)) ((World.cell?_alloc_lt _ _ _ (by simp)).trans (World.cell?_alloc_mark w _ _ _ 1)) (by simp) (by simp) (by simp) (by simp)
  rintro e w' (⟨_, g, cap, rfl, hg, ho, hb⟩ | ⟨h, _⟩)
  · rw [exL_sz]
    rw [exL_sz] at ho
    have hcap := ho.caps
    unfold maxLen at hcap
    have HO := Lib.hid ho
    have HBl := Lib.hid hb
    clear ho hb
    go_wp2_with fail
    refine (same_yes (some ⟨g, 0, none⟩) (some ⟨w'.heap.size, 0, none⟩) 6 cap 6 (J (exL w.heap.size) 2) exZ _ (by exact (HO.out.alloc _).rd) ?_ (exL_J _) (by omega)).mono ?_
    · refine ⟨.inr ⟨w'.heap.size, 0, rfl, by simp, fun j hj => ?_, fun j => ?_⟩, fun j => ?_⟩
      · rcases (by omega : j = 0 ∨ j = 1 ∨ j = 2 ∨ j = 3 ∨ j = 4 ∨ j = 5) with rfl | rfl | rfl | rfl | rfl | rfl <;> simp [exZ]
      all_goals (rcases j with _ | _ | _ | _ | _ | _ | j <;> simp [exZ])
    rintro e w2 ⟨rfl, m, rfl⟩
    go_wp2
    go_ret
    have hb := HBl.out
    have hs := hb.size
    simp at hs
    exact ⟨rfl, bdrewN (((((bself w).alloc (Nat.le_refl _) _).alloc (by simp) _).trans (hb.mono (by simp; omega))).alloc (by omega) _) m⟩
  · omega
end Go.Proofs.Ytpbippipmcpjeab
