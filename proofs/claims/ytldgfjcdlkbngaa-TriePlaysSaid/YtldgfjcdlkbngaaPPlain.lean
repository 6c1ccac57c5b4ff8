/- Plain facts of addresses and their bits, without any program. Each theorem states its conditions. -/
import Derived.Test.YtldgfjcdlkbngaaPlain
namespace Go.Proofs.Ytldgfjcdlkbngaa
open Go.RowKit
set_option linter.unusedVariables false

/-- an address of sixteen bytes, as a value's cells -/
def ag (z : Nat → Int) : Array Value := #[.int .u8 (z 0), .int .u8 (z 1), .int .u8 (z 2), .int .u8 (z 3), .int .u8 (z 4), .int .u8 (z 5), .int .u8 (z 6), .int .u8 (z 7), .int .u8 (z 8), .int .u8 (z 9), .int .u8 (z 10), .int .u8 (z 11), .int .u8 (z 12), .int .u8 (z 13), .int .u8 (z 14), .int .u8 (z 15)]
/-- the upper r bits of a byte -/
def keep (v : Int) (r : Nat) : Int := v / 2 ^ (8 - r) * 2 ^ (8 - r)
/-- the first c bits -/
def firstZ (z : Nat → Int) (c : Nat) : Nat → Int := fun j => if 8 * (j + 1) ≤ c then z j else if c ≤ 8 * j then 0 else keep (z j) (c - 8 * j)
/-- bit i -/
def bitZ (z : Nat → Int) (i : Nat) : Int := z (i / 8) / 2 ^ (7 - i % 8) % 2
/-- family and length are right -/
def Sized (fam len : Int) : Prop := (fam = 4 ∧ 0 ≤ len ∧ len ≤ 32) ∨ (fam = 6 ∧ 0 ≤ len ∧ len ≤ 128)
instance (fam len : Int) : Decidable (Sized fam len) := by unfold Sized; infer_instance
/-- in form -/
def Form (fam len : Int) (z : Nat → Int) : Prop := Sized fam len ∧ ∀ j, j < 16 → firstZ z len.toNat j = z j
instance (fam len : Int) (z : Nat → Int) : Decidable (Form fam len z) := by unfold Form; infer_instance
def Bytes (z : Nat → Int) : Prop := ∀ j, 0 ≤ z j ∧ z j ≤ 255

theorem keep_bd {v : Int} (h : 0 ≤ v ∧ v ≤ 255) (r : Nat) (hr : r ≤ 8) : 0 ≤ keep v r ∧ keep v r ≤ 255 := by
  unfold keep
  rcases (by omega : r = 0 ∨ r = 1 ∨ r = 2 ∨ r = 3 ∨ r = 4 ∨ r = 5 ∨ r = 6 ∨ r = 7 ∨ r = 8) with rfl | rfl | rfl | rfl | rfl | rfl | rfl | rfl | rfl <;> simp <;> omega
theorem firstZ_bd {z : Nat → Int} (h : Bytes z) (c : Nat) : Bytes (firstZ z c) := by
  intro j; unfold firstZ
  split
  · exact h j
  · split
    · omega
    · exact keep_bd (h j) _ (by omega)
/-- &^ with what a shift of ff leaves keeps the upper bits -/
theorem keep_andNot (v : Int) (h : 0 ≤ v ∧ v ≤ 255) (r : Nat) (h0 : 0 < r) (h1 : r < 8) : bits .andNot .u8 v (255 / 2 ^ r) = keep v r := by
  obtain ⟨n, rfl⟩ := Int.eq_ofNat_of_zero_le h.1
  have hn : n < 256 := by omega
  have key : ∀ r, r < 8 → ∀ n : Nat, n < 256 → bits .andNot .u8 (n : Int) (255 / 2 ^ r) = (n : Int) / 2 ^ (8 - r) * 2 ^ (8 - r) := by decide +kernel
  exact key r h1 n hn
/-- the upper r bits are all just if the bits behind them are nought -/
theorem keep_bits (v : Int) (h : 0 ≤ v ∧ v ≤ 255) (r : Nat) (h1 : r < 8) : keep v r = v ↔ ∀ i, i < 8 → r ≤ i → v / 2 ^ (7 - i) % 2 = 0 := by
  obtain ⟨n, rfl⟩ := Int.eq_ofNat_of_zero_le h.1
  have hn : n < 256 := by omega
  have key : ∀ r, r < 8 → ∀ n : Nat, n < 256 → ((n : Int) / 2 ^ (8 - r) * 2 ^ (8 - r) = (n : Int) ↔ ∀ i, i < 8 → r ≤ i → (n : Int) / 2 ^ (7 - i) % 2 = 0) := by decide +kernel
  exact key r h1 n hn
theorem firstZ_lo {z : Nat → Int} {c j : Nat} (h : 8 * (j + 1) ≤ c) : firstZ z c j = z j := by unfold firstZ; rw [if_pos h]
theorem firstZ_hi {z : Nat → Int} {c j : Nat} (h : c ≤ 8 * j) : firstZ z c j = 0 := by unfold firstZ; rw [if_neg (by omega), if_pos h]
theorem firstZ_mid {z : Nat → Int} {c j : Nat} (h : 8 * j < c) (h' : c < 8 * (j + 1)) : firstZ z c j = keep (z j) (c - 8 * j) := by unfold firstZ; rw [if_neg (by omega), if_neg (by omega)]
/-- in form just if all bits behind are nought -/
theorem form_bits (z : Nat → Int) (hz : Bytes z) (c : Nat) (hc : c ≤ 128) : (∀ j, j < 16 → firstZ z c j = z j) ↔ ∀ i, c ≤ i → i < 128 → bitZ z i = 0 := by
  constructor
  · intro h i h1 h2
    have hj := h (i / 8) (by omega)
    unfold bitZ
    by_cases e : c ≤ 8 * (i / 8)
    · rw [firstZ_hi e] at hj
      rw [← hj]; simp
    · rw [firstZ_mid (by omega) (by omega)] at hj
      exact (keep_bits _ (hz _) _ (by omega)).1 hj (i % 8) (by omega) (by omega)
  · intro h j hj
    by_cases e1 : 8 * (j + 1) ≤ c
    · exact firstZ_lo e1
    · by_cases e2 : c ≤ 8 * j
      · rw [firstZ_hi e2]
        have hk : keep (z j) 0 = z j := (keep_bits _ (hz j) 0 (by omega)).2 (fun i hi _ => by
          have := h (8 * j + i) (by omega) (by omega)
          unfold bitZ at this
          rwa [show (8 * j + i) / 8 = j by omega, show (8 * j + i) % 8 = i by omega] at this)
        rw [← hk]
        unfold keep
        have := hz j
        simp
        omega
      · rw [firstZ_mid (by omega) (by omega)]
        exact (keep_bits _ (hz j) _ (by omega)).2 (fun i hi hr => by
          have := h (8 * j + i) (by omega) (by omega)
          unfold bitZ at this
          rwa [show (8 * j + i) / 8 = j by omega, show (8 * j + i) % 8 = i by omega] at this)
end Go.Proofs.Ytldgfjcdlkbngaa
