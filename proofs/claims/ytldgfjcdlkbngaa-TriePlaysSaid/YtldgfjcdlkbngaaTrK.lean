/- The order of prefixes is that of their bits. Plain facts. Each theorem states its conditions. -/
import Derived.Test.YtldgfjcdlkbngaaTrB
import Derived.Test.YtldgfjcdlkbngaaPLaw
namespace Go.Proofs.Ytldgfjcdlkbngaa
open Go.RowKit
set_option linter.unusedVariables false
set_option linter.unusedSimpArgs false

theorem ltB_cases : ∀ {p q : List Bool}, Tr.ltB p q = true → (p <+: q ∧ p ≠ q) ∨ ∃ k, k < p.length ∧ k < q.length ∧ (∀ i, i < k → p[i]? = q[i]?) ∧ p[k]? = some false ∧ q[k]? = some true
  | [], [], h => by cases h
  | [], y :: q, _ => .inl ⟨List.nil_prefix, by simp⟩
  | _ :: _, [], h => by cases h
  | x :: p, y :: q, h => by
    rw [Tr.ltB] at h
    by_cases e : x = y
    · subst e
      rw [if_pos rfl] at h
      rcases ltB_cases h with ⟨h1, h2⟩ | ⟨k, h1, h2, h3, h4, h5⟩
      · exact .inl ⟨(List.cons_prefix_cons).2 ⟨rfl, h1⟩, fun e => h2 (List.cons.inj e).2⟩
      · refine .inr ⟨k + 1, by simp; omega, by simp; omega, fun i hi => ?_, by rw [List.getElem?_cons_succ]; exact h4, by rw [List.getElem?_cons_succ]; exact h5⟩
        cases i with
        | zero => rfl
        | succ i => rw [List.getElem?_cons_succ, List.getElem?_cons_succ]; exact h3 i (by omega)
    · rw [if_neg e] at h
      subst h
      have hx : x = false := by cases x; rfl; exact absurd rfl e
      subst hx
      exact .inr ⟨0, by simp, by simp, fun i hi => by omega, rfl, rfl⟩
/-- a byte whose first unlike bit is nought is the lesser -/
theorem byte_lt {v v' : Int} {m : Nat} (hm : m < 8) (h : 0 ≤ v ∧ v ≤ 255) (h' : 0 ≤ v' ∧ v' ≤ 255) (he : ∀ k, k < m → v / 2 ^ (7 - k) % 2 = v' / 2 ^ (7 - k) % 2) (h0 : v / 2 ^ (7 - m) % 2 = 0) (h1 : v' / 2 ^ (7 - m) % 2 = 1) : v < v' := by
  have g := fun k (hk : k < m) => he k hk
  rcases (by omega : m = 0 ∨ m = 1 ∨ m = 2 ∨ m = 3 ∨ m = 4 ∨ m = 5 ∨ m = 6 ∨ m = 7) with rfl | rfl | rfl | rfl | rfl | rfl | rfl | rfl
  · simp only [Nat.sub_zero, Nat.reduceSub, Int.reducePow] at h0 h1; omega
  · have a0 := g 0 (by decide)
    simp only [Nat.sub_zero, Nat.reduceSub, Int.reducePow] at a0 h0 h1; omega
  · have a0 := g 0 (by decide)
    have a1 := g 1 (by decide)
    simp only [Nat.sub_zero, Nat.reduceSub, Int.reducePow] at a0 a1 h0 h1; omega
  · have a0 := g 0 (by decide)
    have a1 := g 1 (by decide)
    have a2 := g 2 (by decide)
    simp only [Nat.sub_zero, Nat.reduceSub, Int.reducePow] at a0 a1 a2 h0 h1; omega
  · have a0 := g 0 (by decide)
    have a1 := g 1 (by decide)
    have a2 := g 2 (by decide)
    have a3 := g 3 (by decide)
    simp only [Nat.sub_zero, Nat.reduceSub, Int.reducePow] at a0 a1 a2 a3 h0 h1; omega
  · have a0 := g 0 (by decide)
    have a1 := g 1 (by decide)
    have a2 := g 2 (by decide)
    have a3 := g 3 (by decide)
    have a4 := g 4 (by decide)
    simp only [Nat.sub_zero, Nat.reduceSub, Int.reducePow] at a0 a1 a2 a3 a4 h0 h1; omega
  · have a0 := g 0 (by decide)
    have a1 := g 1 (by decide)
    have a2 := g 2 (by decide)
    have a3 := g 3 (by decide)
    have a4 := g 4 (by decide)
    have a5 := g 5 (by decide)
    simp only [Nat.sub_zero, Nat.reduceSub, Int.reducePow, Int.pow_one] at a0 a1 a2 a3 a4 a5 h0 h1; omega
  · have a0 := g 0 (by decide)
    have a1 := g 1 (by decide)
    have a2 := g 2 (by decide)
    have a3 := g 3 (by decide)
    have a4 := g 4 (by decide)
    have a5 := g 5 (by decide)
    have a6 := g 6 (by decide)
    simp only [Nat.sub_zero, Nat.reduceSub, Int.reducePow, Int.pow_zero, Int.ediv_one, Int.pow_one] at a0 a1 a2 a3 a4 a5 a6 h0 h1; omega
theorem ltB_key {fam : Int} {n n' : Nat} {z z' : Nat → Int} (hz : Bytes z) (hz' : Bytes z') (hf : Form fam (n : Int) z) (hf' : Form fam (n' : Int) z') (h : Tr.ltB (btP n z) (btP n' z') = true) : keyP fam (n : Int) z < keyP fam (n' : Int) z' := by
  have hn := form_len hf
  have hn' := form_len hf'
  rcases ltB_cases h with ⟨h1, h2⟩ | ⟨k, h1, h2, h3, h4, h5⟩
  · obtain ⟨c1, c2⟩ := (btP_cov hz hz' hf hf').1 h1
    have hlt : n < n' := by
      rcases Nat.lt_or_eq_of_le c1 with h | h
      · exact h
      · subst h
        exact absurd (h1.eq_of_length (by rw [btP_len, btP_len])) h2
    have h9 := cut_lt (fam := fam) hz' hlt
    have e : keyZ (firstZ z' n) 0 16 = keyZ z 0 16 := key_congr 16 0 (fun j hj => by rw [Nat.zero_add]; exact c2 j hj)
    unfold keyP at h9 ⊢
    rw [e] at h9
    exact h9
  · rw [btP_len] at h1 h2
    have b0 : bitZ z k = 0 := by
      rw [btP_at h1] at h4
      have h9 : decide (bitZ z k = 1) = false := Option.some.inj h4
      rcases bit_01 z k with h8 | h8
      · exact h8
      · rw [h8] at h9; simp at h9
    have b1 : bitZ z' k = 1 := by
      rw [btP_at h2] at h5
      have h9 : decide (bitZ z' k = 1) = true := Option.some.inj h5
      simpa using h9
    have be : ∀ i, i < k → bitZ z i = bitZ z' i := fun i hi => by
      have h9 := h3 i hi
      rw [btP_at (by omega), btP_at (by omega)] at h9
      exact bit_eq.1 (Option.some.inj h9)
    have hbyte : ∀ j, j < k / 8 → z (0 + j) = z' (0 + j) := fun j hj => by
      rw [Nat.zero_add]
      refine byte_bits (hz j) (hz' j) fun m hm => ?_
      have h9 := be (8 * j + m) (by omega)
      unfold bitZ at h9
      rw [show (8 * j + m) / 8 = j by omega, show (8 * j + m) % 8 = m by omega] at h9
      exact h9
    have hlt : z (0 + k / 8) < z' (0 + k / 8) := by
      rw [Nat.zero_add]
      refine byte_lt (m := k % 8) (by omega) (hz _) (hz' _) (fun m hm => ?_) b0 b1
      have h9 := be (8 * (k / 8) + m) (by omega)
      unfold bitZ at h9
      rw [show (8 * (k / 8) + m) / 8 = k / 8 by omega, show (8 * (k / 8) + m) % 8 = m by omega] at h9
      exact h9
    have h9 := key_first hz hz' 16 0 (k / 8) (by omega) hbyte hlt
    unfold keyP
    omega
/-- in one family: the lesser number is the list of bits that stands ahead -/
theorem key_ltB {fam : Int} {n n' : Nat} {z z' : Nat → Int} (hz : Bytes z) (hz' : Bytes z') (hf : Form fam (n : Int) z) (hf' : Form fam (n' : Int) z') : keyP fam (n : Int) z < keyP fam (n' : Int) z' ↔ Tr.ltB (btP n z) (btP n' z') = true := by
  refine ⟨fun h => ?_, ltB_key hz hz' hf hf'⟩
  rcases Tr.lt_tri (btP n z) (btP n' z') with h1 | h1 | h1
  · exact h1
  · obtain ⟨e1, e2⟩ := (btP_eq hz hz' hf hf').1 h1
    subst e1
    have e : keyZ z 0 16 = keyZ z' 0 16 := key_congr 16 0 (fun j hj => by rw [Nat.zero_add]; exact e2 j hj)
    unfold keyP at h
    rw [e] at h
    omega
  · have := ltB_key hz' hz hf' hf h1
    omega
end Go.Proofs.Ytldgfjcdlkbngaa
