/- The document's example of pdu, run: waymarklaw06.awake returns true. No condition. -/
import Derived.Test.YtigkmcbkckfhbaaDWr
namespace Go.Proofs.Ytigkmcbkckfhbaa
open Go.RowKit
set_option linter.unusedVariables false

theorem bdrewN {B : Nat} {a w : World} (h : Below B a w) (m : Nat) : Below B a (w.drewN m) := ⟨h.os, h.tape, h.output, h.size, h.block⟩
theorem rd_lit {w : World} {B n : Nat} {C : Array Value} {t : TypeId} {z : Nat → Int} (h : w.heap[B]? = some (.cells C t (0, 0))) (hz : ∀ j, 0 ≤ z j ∧ z j ≤ 255) (hC : C.toList = vals z n) : Rd w (some ⟨B, 0, none⟩) n z := by
  refine ⟨.inr ⟨B, 0, rfl, (Array.getElem?_eq_some_iff.1 h).1, fun j hj => ?_, hz⟩, hz⟩
  rw [Nat.zero_add, cell_of_row w B j _ _ _ h]
  have := vals_at z n j hj
  rw [← hC] at this
  simpa using this
/-- the example's packet -/
def pX : Pd := ⟨17, 3, fun j => if j = 5 then 1 else 0, 10, 1, 0, fun _ => 0, 0, fun _ => 0, 0, 0, fun _ => 0, fun _ => 0, none, 0, 0⟩
def lX : Nat → It := fun _ => ⟨0, none, 0, 0, fun _ => 0⟩
theorem pX_ok : PdOk pX := by
  refine ⟨⟨?_, ?_, fun j => ?_, ?_, ?_, ?_, fun j => ?_⟩, ?_, fun j => ?_, ?_, ?_, fun j => ?_, fun j => ?_⟩
  all_goals simp only [pX, by1, in64]
  all_goals first | omega | decide | (split <;> omega)
def litX : List Int := [131, 20, 1, 0, 17, 1, 0, 0, 3, 0, 0, 0, 0, 0, 1, 0, 10, 0, 20, 1]
def zX : Nat → Int := fun j => litX.getD j 0
theorem zX_bd : ∀ j, 0 ≤ zX j ∧ zX j ≤ 255 := by
  intro j
  by_cases h : j < 20
  · have : ∀ k : Fin 20, 0 ≤ zX k ∧ zX k ≤ 255 := by decide
    exact this ⟨j, h⟩
  · have : zX j = 0 := by unfold zX List.getD; rw [List.getElem?_eq_none (by simp [litX]; omega)]; rfl
    omega
theorem zX_eq : ∀ j, j < 20 → pdZ pX 0 lX j = zX j := by
  intro j h
  have : ∀ k : Fin 20, pdZ pX 0 lX k = zX k := by decide +kernel
  exact this ⟨j, h⟩
set_option maxHeartbeats 2000000 in
set_option maxRecDepth 100000 in
theorem awake_any (w : World) :
    Calls Try.prog 10 #[] w fun e w' => e = .returned (.bool true) ∧ Below w.heap.size w w' := by
  have HW := Lib.hid (write_ok pX 0 rfl (by decide) pX_ok rfl lX ⟨Nat.le_refl _, fun k hk => absurd hk (Nat.not_lt_zero k), .inl rfl⟩ (by decide) w ⟨.inl rfl, Nat.le_refl _, by decide⟩)
  go_enter Try.func10, Try.ntmps10
  go_wp2_with fail
  refine HW.out.mono ?_
  rintro e w1 ⟨v, rfl, ho, hb⟩
  obtain ⟨g, cap, rfl, hg, ho⟩ := own_ofB ho (by decide)
  rw [show hdN 0 + sz lX pX.m = 20 from rfl] at ho ⊢
  have hcap := ho.caps.1
  have hcap2 : cap ≤ 9223372036854775807 := ho.caps.2
  have HO := Lib.hid ho
  have HB := Lib.hid hb
  have hs := hb.size
  clear ho hb
  go_wp2_with fail
  refine (same_yes _ _ 20 _ _ (pdZ pX 0 lX) zX _ (HO.out.alloc _).rd (rd_lit (heap_alloc_new w1 _) zX_bd rfl) zX_eq (by decide)).mono ?_
  rintro e w2 ⟨rfl, m, rfl⟩
  go_wp2_with fail
  go_ret
  exact ⟨rfl, bdrewN (HB.out.alloc (by omega) _) m⟩
end Go.Proofs.Ytigkmcbkckfhbaa
