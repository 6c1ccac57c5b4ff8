/- Check bytes that are laid are right there; a byte that is turned is seen. Plain facts, and what two stores leave. Each theorem states its conditions. -/
import Derived.Test.YtigkmcbkckfhbaaRight
namespace Go.Proofs.Ytigkmcbkckfhbaa
open Go.RowKit
set_option linter.unusedVariables false

theorem sumA_congr (z z' : Nat → Int) (s k : Nat) (h : ∀ j, j < k → j ≠ s → j ≠ s + 1 → z j = z' j) : sumA z s k = sumA z' s k := by
  induction k with
  | zero => rfl
  | succ k ih =>
    have := ih fun j hj => h j (by omega)
    by_cases hk : k = s ∨ k = s + 1
    · rw [sumA_skip _ _ _ hk, sumA_skip _ _ _ hk, this]
    · rw [sumA_take _ _ _ hk, sumA_take _ _ _ hk, this, h k (by omega) (by omega) (by omega)]
theorem sumB_congr (z z' : Nat → Int) (s n k : Nat) (h : ∀ j, j < k → j ≠ s → j ≠ s + 1 → z j = z' j) : sumB z s n k = sumB z' s n k := by
  induction k with
  | zero => rfl
  | succ k ih =>
    have := ih fun j hj => h j (by omega)
    by_cases hk : k = s ∨ k = s + 1
    · rw [sumB_skip _ _ _ _ hk, sumB_skip _ _ _ _ hk, this]
    · rw [sumB_take _ _ _ _ hk, sumB_take _ _ _ _ hk, this, h k (by omega) (by omega) (by omega)]
theorem sumA_upd (z : Nat → Int) (s k i : Nat) (v : Int) (hi : i < k) (h1 : i ≠ s) (h2 : i ≠ s + 1) : sumA (upd z i v) s k = sumA z s k + (v - z i) := by
  induction k with
  | zero => omega
  | succ k ih =>
    by_cases hk : k = s ∨ k = s + 1
    · rw [sumA_skip _ _ _ hk, sumA_skip _ _ _ hk, ih (by omega)]
    · rw [sumA_take _ _ _ hk, sumA_take _ _ _ hk]
      by_cases e : i = k
      · subst e
        rw [upd_same, sumA_congr (upd z i v) z s i fun j hj _ _ => upd_other z i j v (by omega)]
        omega
      · rw [ih (by omega), upd_other z i k v (fun x => e x.symm)]
        omega

/-- the bytes with their check bytes laid -/
def laidZ (z : Nat → Int) (s n : Nat) : Nat → Int := upd (upd z s (chkX z s n)) (s + 1) (chkY z s n)
theorem laidZ_far (z : Nat → Int) (s n j : Nat) (h1 : j ≠ s) (h2 : j ≠ s + 1) : laidZ z s n j = z j := by
  unfold laidZ; rw [upd_other _ _ _ _ h2, upd_other _ _ _ _ h1]
theorem laidZ_s (z : Nat → Int) (s n : Nat) : laidZ z s n s = chkX z s n := by
  unfold laidZ; rw [upd_other _ _ _ _ (by omega), upd_same]
theorem laidZ_s1 (z : Nat → Int) (s n : Nat) : laidZ z s n (s + 1) = chkY z s n := by
  unfold laidZ; rw [upd_same]
theorem chkX_congr (z z' : Nat → Int) (s n : Nat) (h : ∀ j, j < n → j ≠ s → j ≠ s + 1 → z j = z' j) : chkX z s n = chkX z' s n := by
  unfold chkX; rw [sumA_congr z z' s n h, sumB_congr z z' s n n h]
theorem chkY_congr (z z' : Nat → Int) (s n : Nat) (h : ∀ j, j < n → j ≠ s → j ≠ s + 1 → z j = z' j) : chkY z s n = chkY z' s n := by
  unfold chkY; rw [sumA_congr z z' s n h, chkX_congr z z' s n h]
theorem chk_congr (z z' : Nat → Int) (s n : Nat) (h : ∀ j, j < n → j ≠ s → j ≠ s + 1 → z j = z' j) : chk z s n = chk z' s n := by
  unfold chk; rw [chkY_congr z z' s n h, chkX_congr z z' s n h]
theorem chk_laid (z : Nat → Int) (s n : Nat) : chk (laidZ z s n) s n = chk z s n := chk_congr _ _ s n fun j _ h1 h2 => laidZ_far z s n j h1 h2
theorem chkX_laid (z : Nat → Int) (s n : Nat) : chkX (laidZ z s n) s n = chkX z s n := chkX_congr _ _ s n fun j _ h1 h2 => laidZ_far z s n j h1 h2
theorem chkY_laid (z : Nat → Int) (s n : Nat) : chkY (laidZ z s n) s n = chkY z s n := chkY_congr _ _ s n fun j _ h1 h2 => laidZ_far z s n j h1 h2
theorem right_laid (z : Nat → Int) (s n : Nat) : rightB (laidZ z s n) s n = true := by
  unfold rightB; rw [chkX_laid, chkY_laid, laidZ_s, laidZ_s1]; simp

theorem upd_id (z : Nat → Int) (i : Nat) (v : Int) (h : z i = v) : upd z i v = z := by
  funext j; unfold upd; split
  · subst j; exact h.symm
  · rfl
theorem turned_yes (z : Nat → Int) (s n i : Nat) (v : Int) (h : laidZ z s n i = v) : rightB (upd (laidZ z s n) i v) s n = true := by
  rw [upd_id _ _ _ h]; exact right_laid z s n

theorem turned_not (z : Nat → Int) (s n i : Nat) (v : Int) (hi : i < n) (hz : ∀ j, 0 ≤ z j ∧ z j ≤ 255) (hv : 0 ≤ v ∧ v ≤ 255) (h : laidZ z s n i ≠ v)
    (h1 : ¬ (laidZ z s n i = 0 ∧ v = 255)) (h2 : ¬ (laidZ z s n i = 255 ∧ v = 0)) : rightB (upd (laidZ z s n) i v) s n = false := by
  have hb := chk_bd z s n
  have hP : 0 ≤ laidZ z s n i ∧ laidZ z s n i ≤ 255 := by
    unfold laidZ; exact upd_bd (upd_bd hz _ _ (by omega)) _ _ (by omega) i
  rw [Bool.eq_false_iff]
  intro hr
  unfold rightB at hr
  simp only [Bool.and_eq_true, beq_iff_eq] at hr
  obtain ⟨r1, r2⟩ := hr
  by_cases e1 : i = s
  · subst e1
    rw [upd_same, chkX_congr _ (laidZ z i n) i n fun j _ g1 g2 => upd_other _ i j v g1, chkX_laid] at r1
    rw [laidZ_s] at h
    exact h r1.symm
  · rw [upd_other _ i s v (fun x => e1 x.symm), laidZ_s] at r1
    by_cases e2 : i = s + 1
    · subst e2
      rw [upd_same, chkY_congr _ (laidZ z s n) s n fun j _ g1 g2 => upd_other _ _ j v g2, chkY_laid] at r2
      rw [laidZ_s1] at h
      exact h r2.symm
    · rw [upd_other _ i (s + 1) v (fun x => e2 x.symm), laidZ_s1] at r2
      unfold chkY at r2
      rw [← r1, sumA_upd _ s n i v hi e1 e2, sumA_congr (laidZ z s n) z s n fun j _ g1 g2 => laidZ_far z s n j g1 g2] at r2
      unfold cbI at r2
      omega

section
variable {w w0 : World} {g n cap s : Nat} {z : Nat → Int}
theorem Own8.at_ (h : Own8 w g n cap z) (j : Nat) (hj : j < n) : w.cell? ⟨g, j, none⟩ = some (.int .u8 (z j)) := by
  have := h.row.2.1 j hj
  rwa [Nat.zero_add] at this
theorem laid_ex (h : Own8 w g n cap z) (hs : s + 2 ≤ n) {B : Nat} (hb : Below B w0 w) (hB : B ≤ g) :
    ∃ W2, (w.setCell ⟨g, s, none⟩ (.int .u8 (chkX z s n))).setCell ⟨g, s + 1, none⟩ (.int .u8 (chkY z s n)) = W2 ∧ Own8 W2 g n cap (laidZ z s n) ∧ Below B w0 W2 := by
  have hc := chk_bd z s n
  exact ⟨_, rfl, (h.put s (by omega) _ (by omega)).put (s + 1) (by omega) _ (by omega), (hb.setCell hB _).setCell hB _⟩
theorem laid_ex2 (h : Own8 w g n cap z) (hs : s + 2 ≤ n) {B : Nat} (hb : Below B w0 w) (hB : B ≤ g) :
    ∃ W2, (w.setCell ⟨g, s, none⟩ (.int .u8 (chkX z s n))).setCell ⟨g, s + 1, none⟩ (.int .u8 (chkY z s n)) = W2 ∧ Own8 W2 g n cap (laidZ z s n) ∧ Below B w0 W2 ∧ ∀ p : Addr, p.block ≠ g → W2.cell? p = w.cell? p := by
  obtain ⟨W2, hW, h1, h2⟩ := laid_ex (s := s) h hs hb hB
  refine ⟨W2, hW, h1, h2, fun p hp => ?_⟩
  subst hW
  rw [World.cell?_setCell_other _ _ _ _ (fun e => by subst e; exact hp rfl), World.cell?_setCell_other _ _ _ _ (fun e => by subst e; exact hp rfl)]
theorem put_ex (h : Own8 w g n cap z) {i : Nat} {v : Int} (hi : i < n) (hv : 0 ≤ v ∧ v ≤ 255) {B : Nat} (hb : Below B w0 w) (hB : B ≤ g) :
    ∃ W2, w.setCell ⟨g, i, none⟩ (.int .u8 v) = W2 ∧ Own8 W2 g n cap (upd z i v) ∧ Below B w0 W2 :=
  ⟨_, rfl, h.put i hi _ hv, hb.setCell hB _⟩
end
theorem xor_bd (a b : Int) (ha : 0 ≤ a ∧ a ≤ 255) (hb : 0 ≤ b ∧ b ≤ 255) : 0 ≤ bits .xor .u8 a b ∧ bits .xor .u8 a b ≤ 255 := by
  rw [u8_xor _ _ ha.1 (by omega) hb.1 (by omega)]
  have : a.toNat ^^^ b.toNat < 2 ^ 8 := Nat.xor_lt_two_pow (by omega) (by omega)
  omega
end Go.Proofs.Ytigkmcbkckfhbaa
