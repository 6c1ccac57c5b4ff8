/- A prefix's bits as a list: what covers what, and which are one. Plain facts. Each theorem states its conditions. -/
import Derived.Test.YtjnbemopfhinbaaTrP
import Derived.Test.YtjnbemopfhinbaaSpare
namespace Go.Proofs.Ytjnbemopfhinbaa
open Go.RowKit
set_option linter.unusedVariables false
set_option linter.unusedSimpArgs false

/-- the first n bits of an address -/
def btP (n : Nat) (z : Nat → Int) : List Bool := (List.range n).map fun i => decide (bitZ z i = 1)
theorem btP_len (n : Nat) (z : Nat → Int) : (btP n z).length = n := by unfold btP; simp
theorem btP_at {n i : Nat} {z : Nat → Int} (h : i < n) : (btP n z)[i]? = some (decide (bitZ z i = 1)) := by
  unfold btP
  rw [List.getElem?_map, List.getElem?_range h]
  rfl
theorem bit_01 (z : Nat → Int) (i : Nat) : bitZ z i = 0 ∨ bitZ z i = 1 := by unfold bitZ; omega
theorem bit_eq {z z' : Nat → Int} {i : Nat} : decide (bitZ z i = 1) = decide (bitZ z' i = 1) ↔ bitZ z i = bitZ z' i := by
  rcases bit_01 z i with h | h <;> rcases bit_01 z' i with h' | h' <;> simp [h, h']
theorem byte_bits {v v' : Int} (h : 0 ≤ v ∧ v ≤ 255) (h' : 0 ≤ v' ∧ v' ≤ 255) (he : ∀ k, k < 8 → v / 2 ^ (7 - k) % 2 = v' / 2 ^ (7 - k) % 2) : v = v' := by
  have h0 := he 0 (by decide)
  have h1 := he 1 (by decide)
  have h2 := he 2 (by decide)
  have h3 := he 3 (by decide)
  have h4 := he 4 (by decide)
  have h5 := he 5 (by decide)
  have h6 := he 6 (by decide)
  have h7 := he 7 (by decide)
  simp only [Nat.sub_zero, Nat.reduceSub, Int.reducePow, Int.pow_zero, Int.ediv_one] at h0 h1 h2 h3 h4 h5 h6 h7
  omega
theorem all_bits {z z' : Nat → Int} (hz : Bytes z) (hz' : Bytes z') (h : ∀ i, i < 128 → bitZ z i = bitZ z' i) : ∀ j, j < 16 → z j = z' j := by
  intro j hj
  refine byte_bits (hz j) (hz' j) fun k hk => ?_
  have h1 := h (8 * j + k) (by omega)
  unfold bitZ at h1
  rw [show (8 * j + k) / 8 = j by omega, show (8 * j + k) % 8 = k by omega] at h1
  exact h1
theorem keep_bitT {v : Int} (hv : 0 ≤ v ∧ v ≤ 255) {r k : Nat} (hr : 0 < r ∧ r < 8) (hk : k < 8) : keep v r / 2 ^ (7 - k) % 2 = if k < r then v / 2 ^ (7 - k) % 2 else 0 := by
  unfold keep
  obtain ⟨r1, r2⟩ := hr
  rcases (by omega : r = 1 ∨ r = 2 ∨ r = 3 ∨ r = 4 ∨ r = 5 ∨ r = 6 ∨ r = 7) with rfl | rfl | rfl | rfl | rfl | rfl | rfl <;>
  rcases (by omega : k = 0 ∨ k = 1 ∨ k = 2 ∨ k = 3 ∨ k = 4 ∨ k = 5 ∨ k = 6 ∨ k = 7) with rfl | rfl | rfl | rfl | rfl | rfl | rfl | rfl <;>
  simp only [Nat.sub_zero, Nat.reduceSub, Nat.reduceLT, Int.reducePow, Int.pow_zero, Int.ediv_one, if_true, if_false, Nat.reduceLeDiff] <;> omega
theorem first_bitT {z : Nat → Int} (hz : Bytes z) (c i : Nat) : bitZ (firstZ z c) i = if i < c then bitZ z i else 0 := by
  unfold bitZ
  by_cases h1 : 8 * (i / 8 + 1) ≤ c
  · rw [firstZ_lo h1, if_pos (by omega)]
  by_cases h2 : c ≤ 8 * (i / 8)
  · rw [firstZ_hi h2, if_neg (by omega)]
    simp
  · rw [firstZ_mid (by omega) (by omega), keep_bitT (hz _) (by omega) (by omega)]
    by_cases h3 : i < c
    · rw [if_pos h3, if_pos (by omega)]
    · rw [if_neg h3, if_neg (by omega)]
theorem btP_first {z : Nat → Int} (hz : Bytes z) (c : Nat) : btP c (firstZ z c) = btP c z := by
  unfold btP
  refine List.map_congr_left fun i hi => ?_
  rw [first_bitT hz, if_pos (by simpa using hi)]
theorem btP_take {n c : Nat} (z : Nat → Int) (h : c ≤ n) : (btP n z).take c = btP c z := by
  unfold btP
  rw [← List.map_take, List.take_range, Nat.min_eq_left h]
theorem form_len {fam : Int} {n : Nat} {z : Nat → Int} (h : Form fam (n : Int) z) : n ≤ 128 := by
  rcases h.1 with h1 | h1 <;> omega
theorem form_hi {fam : Int} {n : Nat} {z : Nat → Int} (hz : Bytes z) (h : Form fam (n : Int) z) : ∀ i, n ≤ i → i < 128 → bitZ z i = 0 := by
  have h1 := h.2
  rw [Int.toNat_natCast] at h1
  exact (form_bits z hz n (form_len h)).1 h1
/-- of those in form the same bits are the same address -/
theorem btP_eq {fam fam' : Int} {n n' : Nat} {z z' : Nat → Int} (hz : Bytes z) (hz' : Bytes z') (hf : Form fam (n : Int) z) (hf' : Form fam' (n' : Int) z') : btP n z = btP n' z' ↔ n = n' ∧ ∀ j, j < 16 → z j = z' j := by
  constructor
  · intro h
    have hn : n = n' := by have := congrArg List.length h; rw [btP_len, btP_len] at this; exact this
    subst hn
    refine ⟨rfl, all_bits hz hz' fun i hi => ?_⟩
    by_cases hin : i < n
    · have h1 := btP_at (z := z) hin
      have h2 := btP_at (z := z') hin
      rw [h, h2] at h1
      exact (bit_eq.1 (Option.some.inj h1)).symm
    · rw [form_hi hz hf i (by omega) hi, form_hi hz' hf' i (by omega) hi]
  · rintro ⟨rfl, h⟩
    unfold btP
    refine List.map_congr_left fun i hi => ?_
    have h1 : i < n := by simpa using hi
    have h2 := form_len hf
    refine bit_eq.2 ?_
    unfold bitZ
    rw [h (i / 8) (by omega)]
/-- what covers what -/
theorem btP_cov {fam fam' : Int} {n n' : Nat} {z z' : Nat → Int} (hz : Bytes z) (hz' : Bytes z') (hf : Form fam (n : Int) z) (hf' : Form fam' (n' : Int) z') : btP n z <+: btP n' z' ↔ n ≤ n' ∧ ∀ j, j < 16 → firstZ z' n j = z j := by
  have hn := form_len hf
  constructor
  · intro h
    have hl := h.length_le
    rw [btP_len, btP_len] at hl
    refine ⟨hl, fun j hj => ?_⟩
    have h1 : btP n z = btP n z' := by
      have h2 := List.prefix_iff_eq_take.1 h
      rw [btP_len, btP_take z' hl] at h2
      exact h2
    refine all_bits (firstZ_bd hz' n) hz (fun i hi => ?_) j hj
    rw [first_bitT hz']
    by_cases hin : i < n
    · rw [if_pos hin]
      have h3 := btP_at (z := z) hin
      have h4 := btP_at (z := z') hin
      rw [h1, h4] at h3
      exact bit_eq.1 (Option.some.inj h3)
    · rw [if_neg hin, form_hi hz hf i (by omega) hi]
  · rintro ⟨hl, h⟩
    have h1 : btP n z = btP n z' := by
      rw [← btP_first hz' n]
      unfold btP
      refine List.map_congr_left fun i hi => ?_
      have hin : i < n := by simpa using hi
      refine bit_eq.2 ?_
      unfold bitZ
      rw [h (i / 8) (by omega)]
    rw [h1, ← btP_take z' hl]
    exact List.take_prefix _ _
end Go.Proofs.Ytjnbemopfhinbaa
