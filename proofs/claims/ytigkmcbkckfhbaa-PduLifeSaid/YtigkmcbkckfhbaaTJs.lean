/- Lists as bytes and back. Each theorem states its conditions. -/
import Derived.Test.YtigkmcbkckfhbaaTTwin
namespace Go.Proofs.Ytigkmcbkckfhbaa
open Go.RowKit
set_option linter.unusedVariables false

theorem sz_congr {L L' : Nat → It} {m : Nat} (h : ∀ j, j < m → (L j).n = (L' j).n) : ∀ k, k ≤ m → sz L k = sz L' k := by
  intro k hk
  induction k with
  | zero => rfl
  | succ k ih => simp only [sz, ih (by omega), h k (by omega)]
theorem bad_congr {L L' : Nat → It} {m : Nat} (h : ∀ j, j < m → (L j).n = (L' j).n) (k : Nat) (hk : k < m) : bad L k ↔ bad L' k := by
  unfold bad; rw [h k hk, sz_congr h (k + 1) (by omega)]
theorem jends_congr {L L' : Nat → It} {m m0 : Nat} (h : ∀ j, j < m → (L j).n = (L' j).n) (hj : JEnds L m m0) : JEnds L' m m0 :=
  ⟨hj.1, fun k hk => fun hb => hj.2.1 k hk ((bad_congr h k (by have := hj.1; omega)).2 hb), hj.2.2.elim .inl (fun hx => .inr ⟨hx.1, (bad_congr h m0 hx.1).1 hx.2⟩)⟩
theorem J_congr {L L' : Nat → It} {m : Nat} (h : ∀ j, j < m → (L j).ty = (L' j).ty ∧ (L j).n = (L' j).n ∧ ∀ i, i < (L j).n → (L j).z i = (L' j).z i) : ∀ k, k ≤ m → ∀ j, j < sz L k → J L k j = J L' k j := by
  intro k hk
  induction k with
  | zero => intro j hj; simp [sz] at hj
  | succ k ih =>
    intro j hj
    have hs := sz_congr (fun j hj => (h j hj).2.1) k (by omega)
    obtain ⟨h1, h2, h3⟩ := h k (by omega)
    simp only [J, ← hs, ← h1, ← h2]
    unfold cat
    split
    · split
      · exact ih (by omega) j (by omega)
      · rfl
    · exact h3 _ (by simp only [sz] at hj; omega)
theorem J_old (L : Nat → It) (k m : Nat) (h : k ≤ m) : ∀ j, j < sz L k → J L m j = J L k j := by
  induction m with
  | zero => obtain rfl : k = 0 := by omega
            intro j _; rfl
  | succ m ih =>
    by_cases e : k = m + 1
    · subst e; intro j _; rfl
    · intro j hj
      have := sz_mono L k m (by omega)
      simp only [J]
      unfold cat
      rw [if_pos (by omega), if_pos (by omega)]
      exact ih (by omega) j hj
theorem J_item (L : Nat → It) (k m : Nat) (h : k < m) : J L m (sz L k) = (L k).ty ∧ J L m (sz L k + 1) = (L k).n ∧ ∀ i, i < (L k).n → J L m (sz L k + 2 + i) = (L k).z i := by
  have hs : sz L (k + 1) = sz L k + (2 + (L k).n) := rfl
  refine ⟨?_, ?_, fun i hi => ?_⟩
  · rw [J_old L (k + 1) m (by omega) _ (by omega)]
    simp [J, cat, two]
  · rw [J_old L (k + 1) m (by omega) _ (by omega)]
    simp [J, cat, two]
    omega
  · rw [J_old L (k + 1) m (by omega) _ (by omega)]
    simp only [J]
    unfold cat
    rw [if_neg (by omega)]
    congr 1; omega
theorem J_pos (L : Nat → It) (m : Nat) : ∀ k, k ≤ m → pos (J L m) k = sz L k := by
  intro k hk
  induction k with
  | zero => rfl
  | succ k ih =>
    obtain ⟨_, h2, _⟩ := J_item L k m (by omega)
    simp only [pos, sz, ih (by omega), h2]
    omega
theorem J_back {L L5 : Nat → It} {m : Nat} (hI : IsItZ (J L m) L5 m) : ∀ j, j < m → (L5 j).ty = (L j).ty ∧ (L5 j).n = (L j).n ∧ ∀ i, i < (L5 j).n → (L5 j).z i = (L j).z i := by
  intro j hj
  obtain ⟨g, cap, e⟩ := hI j hj
  obtain ⟨h1, h2, h3⟩ := J_item L j m hj
  rw [e]
  unfold itZ
  simp only [J_pos L m j (by omega), h1, h2]
  refine ⟨trivial, by omega, fun i hi => h3 i (by omega)⟩
end Go.Proofs.Ytigkmcbkckfhbaa
